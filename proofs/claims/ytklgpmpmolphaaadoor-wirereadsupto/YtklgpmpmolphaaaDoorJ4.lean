/-
  Own text. strconv.Itoa of a byte; the document's four.
-/
import Derived.Test.YtklgpmpmolphaaaDoorJ3
import Derived.Shelf.LaysM
import Derived.Shelf.Pu.ParseUintPublic10
import Derived.Shelf.Strings.Cut
import Derived.Shelf.Strings.OnBuilder
import Derived.Shelf.Strings.Repeat
import Derived.Shelf.Strings.Split
import Derived.Test.YtklgpmpmolphaaaDoorProg
import Derived.Laws.Bits64b
import Derived.Lib.ConvBytes
import Derived.Lib.AtoiErrMem
import Derived.Lib.ParseIntBMem
import Derived.Laws.Closers25b
namespace Go.Proofs.YtklgpmpmolphaaaDoor
open Go.RowKit Go.Proofs Go.Lib
set_option maxRecDepth 100000
/-- The library's table of powers of ten stands. -/
def Pow (w : World) : Prop := TabIs Tryd.prog w "internal/strconv.uint64pow10" .u64 pow10Tab
theorem pow_glob : ∃ g, Tryd.prog.globalNamed "internal/strconv.uint64pow10" = some g := by
  cases h : Tryd.prog.globalNamed "internal/strconv.uint64pow10" with
  | some g => exact ⟨g, rfl⟩
  | none =>
    have : (Tryd.prog.globalNamed "internal/strconv.uint64pow10").isSome = true := by kernel_rfl
    rw [h] at this
    cases this
theorem Pow.kept {w w' : World} (h : Pow w) (hb : Below w.heap.size w w') : Pow w' := by
  obtain ⟨g, hg⟩ := pow_glob
  unfold Pow TabIs World.var? at h ⊢
  rw [hg] at h ⊢
  simp only [Option.bind_some] at h ⊢
  have hl : g < w.heap.size := by
    rcases Nat.lt_or_ge g w.heap.size with hl | hl
    · exact hl
    · rw [Array.getElem?_eq_none hl] at h
      cases h
  rw [hb.block g hl]
  exact h
theorem dec_is {n : Nat} (hn : n < 256) : decDigits n = decT n := by
  unfold decT
  by_cases h1 : n < 10
  · rw [if_pos h1, decDigits, dif_pos h1]
  · rw [if_neg h1, decDigits, dif_neg h1]
    by_cases h2 : n < 100
    · rw [if_pos h2, decDigits, dif_pos (by omega)]
      rfl
    · rw [if_neg h2, decDigits, dif_neg (by omega), decDigits, dif_pos (by omega)]
      have e1 : n / 10 / 10 = n / 100 := by omega
      rw [e1]
      rfl
def decS (n : Nat) : ByteArray := ⟨(decT n).toArray⟩
theorem decS_ls (n : Nat) : lsT (decS n) = decT n := by unfold lsT decS; rfl
theorem below_gr (w : World) (q : Nat) (os : Array Obj) : Below w.heap.size w (Sort.grow (w.drewN q) os) :=
  ⟨rfl, rfl, rfl, by simp [Sort.grow, World.drewN], fun k hk => by
    show (w.heap ++ os)[k]? = w.heap[k]?
    rw [Array.getElem?_append_left hk]⟩
theorem Itoa_run (n : Nat) (w : World) (hn : n < 256) (hp : Pow w) : Calls Tryd.prog 39 #[.int .i64 (n : Int)] w fun e w' => e = .returned (.string (decS n)) ∧ Below w.heap.size w w' := by
  refine (shelf_Itoa (n : Int) (by omega) (by omega) w hp).mono ?_
  rintro e w' ⟨rfl, k, os, rfl⟩
  refine ⟨?_, below_gr w k os⟩
  have e1 : itoa (n : Int) = decT n := by
    unfold itoa
    rw [if_neg (by omega), Int.toNat_natCast, dec_is hn]
  rw [e1]
  rfl
theorem foldD_app : ∀ (a b : List UInt8) (n : Nat), foldD n (a ++ b) = match foldD n a with | some m => foldD m b | none => none
  | [], b, n => rfl
  | c :: a, b, n => by
    show foldD n (c :: (a ++ b)) = _
    rw [foldD, foldD]
    by_cases hc : 48 ≤ c.toNat ∧ c.toNat ≤ 57
    · rw [if_pos hc, if_pos hc]
      exact foldD_app a b _
    · rw [if_neg hc, if_neg hc]
/-- The bytes of an address from numbers. -/
def lsB (l : List Nat) (j : Nat) : Int := ((l.getD j 0 : Nat) : Int)
/-- What four tells. -/
def FourQ (R : Option (List Nat)) (e : Ending) : Prop := (∃ l, R = some l ∧ e = .returned (.tuple #[.agg (SC 17 (adV false (lsB l))), .bool true])) ∨ (R = none ∧ e = .returned (.tuple #[.agg (SC 17 (adV false (fun _ => 0))), .bool false]))
theorem lsB_upd {l : List Nat} {i : Nat} (hl : l.length = i) (n : Nat) (j : Nat) : upd (lsB l) i (n : Int) j = lsB (l ++ [n]) j := by
  unfold upd lsB
  by_cases e : j = i
  · rw [if_pos e, List.getD_eq_getElem?_getD, List.getElem?_append_right (by omega), e, hl, Nat.sub_self]
    rfl
  · rw [if_neg e, List.getD_eq_getElem?_getD, List.getD_eq_getElem?_getD]
    by_cases e2 : j < i
    · rw [List.getElem?_append_left (by omega)]
    · rw [List.getElem?_eq_none (by omega), List.getElem?_eq_none (by simp; omega)]
theorem OwnS.only {w w' : World} {B g n : Nat} {v : Value} {ps : List ByteArray} {V : Nat → Value} (h : OwnS w B v ps) (ho : Only g w w') (hg : SAt w g 40 n V) : OwnS w' B v ps := ownM_block h (fun k hk => ho.block k (fun e => by
  subst e
  rcases h.2 with ⟨e1, _⟩ | ⟨g1, cap, cur, e1, _, hg1, _⟩
  · rw [e1] at hk
    cases hk
  · rw [e1] at hk
    have e3 : g1 = k := Option.some.inj hk
    rw [e3] at hg1
    have h1 := hg.symm.trans hg1
    simp at h1))
theorem Pow.only {w0 w w' : World} {g : Nat} (h0 : Pow w0) (h : Pow w) (ho : Only g w w') (hg : w0.heap.size ≤ g) : Pow w' := by
  obtain ⟨k, hk⟩ := pow_glob
  unfold Pow TabIs World.var? at h0 h ⊢
  rw [hk] at h0 h ⊢
  simp only [Option.bind_some] at h0 h ⊢
  have hl : k < w0.heap.size := by
    rcases Nat.lt_or_ge k w0.heap.size with hl | hl
    · exact hl
    · rw [Array.getElem?_eq_none hl] at h0
      cases h0
  rw [ho.block k (by omega)]
  exact h
theorem exec_gtW {a : Act} {o : Oper} {w : World} {x y : Operand} (ho : o.op = .binOp .gtr 3 x y 3) {m n : Int} (hx : a.eval x = .int .i64 m) (hy : a.eval y = .int .i64 n) {b : Bool} (h : decide (n < m) = b) : (execOp a.eval o).run Tryd.prog w = .ok (.value (.bool b)) w := by subst h; exact exec_bin2 ho hx hy rfl (by simp [go_sem])
theorem enterW_It (args : Array Value) (w : World) : (callFunc 39 args).run Tryd.prog w = .ok (.enter 39 args) w := by kernel_rfl
section
variable {a : Act} {o : Oper} {w : World} {x y : Operand}
theorem exec_sub8 (ho : o.op = .binOp .sub 5 x y 5) {m n q : Int} (hx : a.eval x = .int .u8 m) (hy : a.eval y = .int .u8 n) (hq : m - n = q) (h0 : 0 ≤ q) (h1 : q < 256) : (execOp a.eval o).run Tryd.prog w = .ok (.value (.int .u8 q)) w := by
  refine exec_bin2 ho hx hy rfl ?_
  have e2 : IntKind.u8.wrap q = q := by rw [IntKind.wrap_u8]; omega
  simp [go_sem, hq, e2]
theorem exec_cvI8 (ho : o.op = .convert 3 5 x) {m : Nat} (hx : a.eval x = .int .i64 (m : Int)) (h1 : m < 256) : (execOp a.eval o).run Tryd.prog w = .ok (.value (.int .u8 (m : Int))) w := by
  have e : IntKind.u8.wrap (m : Int) = (m : Int) := by rw [IntKind.wrap_u8]; omega
  unfold execOp
  simp only [ho, hx]
  simp [go_sem, e]
theorem exec_neSn (ho : o.op = .binOp .neq 9 x y 9) {s t : ByteArray} (hx : a.eval x = .string s) (hy : a.eval y = .string t) {b : Bool} (hb : decide (s ≠ t) = b) : (execOp a.eval o).run Tryd.prog w = .ok (.value (.bool b)) w := by
  by_cases e : s = t
  · have : b = false := by rw [← hb]; simp [e]
    subst this
    exact exec_neqS ho hx hy e
  · have : b = true := by rw [← hb]; simp [e]
    subst this
    exact exec_neqST ho hx hy e
end
set_option maxHeartbeats 8000000 in
theorem rfour_run (T : ByteArray) (w : World) (hT : T.size ≤ 1100000) (hp : Pow w) : Calls Tryd.prog 45 #[.string T] w fun e w' => FourQ (fourV (lsT T)) e ∧ Below w.heap.size w w' := by
  have HFV : Hid (fourV (lsT T) = if (splitC 46 (lsT T)).length = 4 then allO byteV (splitC 46 (lsT T)) else none) := Hid.mk rfl
  have HC : Hid (∀ ww, Calls Tryd.prog 57 #[.string T, .int .u8 46] ww fun e w' => ∃ v, e = .returned v ∧ ∃ ps, ps.map lsT = splitC 46 (lsT T) ∧ OwnS w' ww.heap.size v ps ∧ Below ww.heap.size ww w') := Hid.mk (fun ww => rcut_run T 46 ww (by omega))
  generalize fourV (lsT T) = R at *
  generalize splitC 46 (lsT T) = S at *
  have HP := Hid.mk hp
  clear hp
  go_enter Tryd.func45, Tryd.ntmps45
  go_wp2_with (refine wl_alO rfl rfl zeroAddr ?_; intro g2 u1 hg2 q2 hB1; refine Hid.out ?_)
  refine Hid.mk ?_
  go_wp2_with fail
  refine (HC.out u1).mono ?_
  rintro e u2 ⟨v1, rfl, ps, hps, hO1, hB2⟩
  obtain ⟨p, cp, e1⟩ := hO1.shape
  subst e1
  have q2a := SAt.kept q2 hB2
  have hBa : Below w.heap.size w u2 := hB1.trans (hB2.mono hB1.size)
  have HPS := Hid.mk hps
  clear HC hps q2 hB1 hB2
  by_cases h4 : ps.length = 4
  · have h4b : ((ps.length : Int) != 4) = false := by rw [h4]; rfl
    have HF : Hid (R = allO byteV S) := Hid.mk (by rw [HFV.out, if_pos (by rw [← HPS.out, List.length_map]; exact h4)])
    clear HFV
    rw [h4] at hO1
    have HO := Hid.mk hO1
    clear hO1
    have HP2 : Hid (Pow u2) := Hid.mk (HP.out.kept hBa)
    go_wp2_with (refine wl_alO rfl rfl zeroAddr ?_; intro g5 u3 hg5 q5 hB3; refine Hid.out ?_)
    refine Hid.mk ?_
    have h25 : g2 ≠ g5 := by have := SAt.lt q2a; omega
    have hBb : Below w.heap.size w u3 := hBa.trans (hB3.mono hBa.size)
    have hg5w : w.heap.size ≤ g5 := by have := hBa.size; omega
    have HS0 : Hid (OwnS u3 u1.heap.size (.slice p 4 cp) ps ∧ SAt u3 g5 40 17 (adV false (lsB [])) ∧ SAt u3 g2 40 17 (adV false (fun _ => 0)) ∧ Pow u3) := Hid.mk ⟨HO.out.kept hB3, q5.congr (fun j _ => rfl), SAt.kept q2a hB3, HP2.out.kept hB3⟩
    clear HO HP2 q5 q2a hB3 hBa hg5
    go_wp2_with fail
    go_loopg [6] (4 : Nat) (fun gm s6 z => ∃ (i : Nat) (l : List Nat), gm = 4 - i ∧ i ≤ 4 ∧ s6 = .int .i64 (i : Int) ∧ Hid (l.length = i ∧ allO byteV (S.take i) = some l ∧ OwnS z u1.heap.size (.slice p 4 cp) ps ∧ SAt z g5 40 17 (adV false (lsB l)) ∧ SAt z g2 40 17 (adV false (fun _ => 0)) ∧ Pow z) ∧ Below w.heap.size w z)
    case atStart => exact ⟨0, [], rfl, by omega, rfl, Hid.mk ⟨rfl, rfl, HS0.out⟩, hBb⟩
    case round =>
      obtain ⟨i, l, hgm, hi, rfl, HS, hB⟩ := hrel
      clear HS0 hBb
      by_cases hi4 : i < 4
      · have hi4i : (i : Int) < 4 := by omega
        obtain ⟨s, hs⟩ : ∃ s, ps[i]? = some s := ⟨_, List.getElem?_eq_getElem (by omega)⟩
        obtain ⟨ad, hpa, hca⟩ := HS.out.2.2.1.cell hs
        subst hpa
        have hSi : S[i]? = some (lsT s) := by rw [← HPS.out, List.getElem?_map, hs]; rfl
        have HSI := Hid.mk hSi
        have HCE := Hid.mk hca
        clear hca hs hSi
        obtain ⟨M, hM⟩ : ∃ M, s.size = M := ⟨_, rfl⟩
        have HM := Hid.mk hM
        have q2z := HS.out.2.2.2.2.1
        have HNO : Hid (byteV (lsT s) = none → R = none) := Hid.mk (fun e => by rw [HF.out]; exact allO_none (List.mem_of_getElem? HSI.out) e)
        by_cases hl1 : M < 1
        · have hl1i : (M : Int) < 1 := by omega
          have HN : Hid (R = none) := Hid.mk (HNO.out (by unfold byteV; rw [if_neg (by rw [lsT_len]; omega)]))
          go_wp2_with (first | (refine wl_value rfl (exec_ixSt (i := i) rfl (by rfl) (by rfl) hi4) ?_) | (refine wl_value rfl (exec_ld rfl (by rfl) (load_str HCE.out)) ?_) | (refine wl_value rfl (exec_adW0 rfl) ?_) | (refine st_stO rfl rfl isAddr (adV_one _ _) q2z (by rfl) (by rfl) ?_; intro u3 q3 o3; refine Hid.out ?_))
          refine Hid.mk ?_
          go_wp2_with fail
          exact bodyPost_ret (res_ct rfl isAddr q3 (by rfl) (by rfl)) rfl ⟨.inr ⟨HN.out, rfl⟩, hB.trans (o3.below hg2)⟩
        · have hl1i : ¬ (M : Int) < 1 := by omega
          by_cases hl3 : 3 < M
          · have hl3i : (3 : Int) < (M : Int) := by omega
            have HN : Hid (R = none) := Hid.mk (HNO.out (by unfold byteV; rw [if_neg (by rw [lsT_len]; omega)]))
            go_wp2_with (first | (refine wl_value rfl (exec_ixSt (i := i) rfl (by rfl) (by rfl) hi4) ?_) | (refine wl_value rfl (exec_ld rfl (by rfl) (load_str HCE.out)) ?_) | (refine wl_value rfl (exec_adW0 rfl) ?_) | (refine st_stO rfl rfl isAddr (adV_one _ _) q2z (by rfl) (by rfl) ?_; intro u3 q3 o3; refine Hid.out ?_))
            refine Hid.mk ?_
            go_wp2_with fail
            exact bodyPost_ret (res_ct rfl isAddr q3 (by rfl) (by rfl)) rfl ⟨.inr ⟨HN.out, rfl⟩, hB.trans (o3.below hg2)⟩
          · have hl3i : ¬ (3 : Int) < (M : Int) := by omega
            have HBV : Hid (∀ n, foldD 0 (lsT s) = some n → byteV (lsT s) = if n ≤ 255 ∧ decT n = lsT s then some n else none) := Hid.mk (fun n e => by
              unfold byteV
              rw [if_pos (by rw [lsT_len]; omega), e])
            have HBN0 : Hid (foldD 0 (lsT s) = none → byteV (lsT s) = none) := Hid.mk (fun e => by
              unfold byteV
              rw [if_pos (by rw [lsT_len]; omega), e])
            go_wp2_with (first | (refine wl_value rfl (exec_ixSt (i := i) rfl (by rfl) (by rfl) hi4) ?_) | (refine wl_value rfl (exec_ld rfl (by rfl) (load_str HCE.out)) ?_))
            obtain ⟨wO, hwO⟩ : ∃ x, x = wr := ⟨_, rfl⟩
            rw [← hwO] at HS HCE hB q2z ⊢
            clear hwO
            go_loopg [7, 8, 9] M (fun gm s7 s8 s9 z => ∃ (k n : Nat), gm = M - k ∧ k ≤ M ∧ s8 = .int .i64 (k : Int) ∧ s7 = .int .i64 (n : Int) ∧ Hid (foldD 0 ((lsT s).take k) = some n ∧ n < 10 ^ k) ∧ z = wO)
            case atStart => exact ⟨0, 0, rfl, by omega, rfl, rfl, Hid.mk ⟨rfl, by simp⟩, rfl⟩
            case round =>
              obtain ⟨k, n, hgk, hk, rfl, rfl, HK, hz⟩ := hrel
              subst hz
              by_cases hkM : k < M
              · have hkMi : (k : Int) < (M : Int) := by omega
                obtain ⟨x, hdr, htx⟩ := lsT_at (s := s) (i := k) (by omega)
                have HTX := Hid.mk htx
                have hn10 : n < 100 := by
                  have h1 := HK.out.2
                  have h2 : 10 ^ k ≤ 10 ^ 2 := Nat.pow_le_pow_right (by decide) (by omega)
                  have h3 : (10 : Nat) ^ 2 = 100 := rfl
                  omega
                have HTK : Hid ((lsT s).take (k + 1) = (lsT s).take k ++ [x] ∧ lsT s = (lsT s).take k ++ x :: (lsT s).drop (k + 1)) := Hid.mk ⟨by
                  rw [List.take_add_one, ← List.head?_drop, hdr]
                  rfl, by rw [← hdr, List.take_append_drop]⟩
                clear htx hdr
                have hx256 := x.toNat_lt
                obtain ⟨c, hc⟩ : ∃ c, x.toNat = c := ⟨_, rfl⟩
                rw [hc] at HTX hx256
                by_cases hd : 48 ≤ c ∧ c ≤ 57
                · have j1 : ¬ (c : Int) < 48 := by omega
                  have j2 : ¬ (57 : Int) < (c : Int) := by omega
                  obtain ⟨d, hde⟩ : ∃ d : Nat, (c : Int) - 48 = (d : Int) := ⟨c - 48, by omega⟩
                  obtain ⟨n1, hn1⟩ : ∃ n1, 10 * n = n1 := ⟨_, rfl⟩
                  obtain ⟨n2, hn2⟩ : ∃ n2, n1 + d = n2 := ⟨_, rfl⟩
                  have HKX : Hid (foldD 0 ((lsT s).take (k + 1)) = some n2 ∧ n2 < 10 ^ (k + 1)) := Hid.mk ⟨by
                    rw [HTK.out.1, foldD_app, HK.out.1]
                    show foldD n [x] = _
                    rw [foldD, if_pos (by rw [hc]; exact hd), hc]
                    show some (10 * n + (c - 48)) = _
                    congr 1
                    omega, by rw [Nat.pow_succ]; have := HK.out.2; omega⟩
                  have HNN := Hid.mk (And.intro hn1 (And.intro hn2 hde))
                  have l1 : n1 < 9223372036854775808 := by omega
                  have l2 : n2 < 9223372036854775808 := by omega
                  have hd10 : d < 10 := by omega
                  clear hn1 hn2 hde HK
                  go_wp2_with (first | (refine wl_value rfl (exec_ixSt (i := i) rfl (by rfl) (by rfl) hi4) ?_) | (refine wl_value rfl (exec_ld rfl (by rfl) (load_str HCE.out)) ?_) | (refine wl_value rfl (exec_ixs (j := k) rfl (by rfl) (by rfl) (by rw [HM.out]; exact hkM)) ?_; simp only [HTX.out]) | (refine wl_value rfl (exec_mulW (i := 10) (m := n) rfl (by rfl) (by rfl) HNN.out.1 l1) ?_) | (refine wl_value rfl (exec_sub8 rfl (by rfl) (by rfl) HNN.out.2.2 (by omega) (by omega)) ?_) | (refine wl_value rfl (exec_cvW rfl (by rfl) (by omega) (by omega)) ?_) | (refine wl_value rfl (exec_addW (i := n1) (m := d) rfl (by rfl) (by rfl) HNN.out.2.1 l2) ?_))
                  go_roundg (M - (k + 1))
                  case rel => exact ⟨k + 1, n2, rfl, by omega, by go_num, rfl, HKX, rfl⟩
                  case measure => omega
                · have HN : Hid (R = none) := Hid.mk (HNO.out (HBN0.out (by
                    rw [HTK.out.2, foldD_app, HK.out.1]
                    show foldD n (x :: _) = none
                    rw [foldD, if_neg (by rw [hc]; exact hd)])))
                  have q2y := HS.out.2.2.2.2.1
                  by_cases j1 : (c : Int) < 48
                  · go_wp2_with (first | (refine wl_value rfl (exec_ixSt (i := i) rfl (by rfl) (by rfl) hi4) ?_) | (refine wl_value rfl (exec_ld rfl (by rfl) (load_str HCE.out)) ?_) | (refine wl_value rfl (exec_ixs (j := k) rfl (by rfl) (by rfl) (by rw [HM.out]; exact hkM)) ?_; simp only [HTX.out]) | (refine wl_value rfl (exec_adW0 rfl) ?_) | (refine st_stO rfl rfl isAddr (adV_one _ _) q2y (by rfl) (by rfl) ?_; intro u3 q3 o3; refine Hid.out ?_))
                    refine Hid.mk ?_
                    go_wp2_with fail
                    exact bodyPost_ret (res_ct rfl isAddr q3 (by rfl) (by rfl)) rfl ⟨.inr ⟨HN.out, rfl⟩, hB.trans (o3.below hg2)⟩
                  · have j2 : (57 : Int) < (c : Int) := by omega
                    go_wp2_with (first | (refine wl_value rfl (exec_ixSt (i := i) rfl (by rfl) (by rfl) hi4) ?_) | (refine wl_value rfl (exec_ld rfl (by rfl) (load_str HCE.out)) ?_) | (refine wl_value rfl (exec_ixs (j := k) rfl (by rfl) (by rfl) (by rw [HM.out]; exact hkM)) ?_; simp only [HTX.out]) | (refine wl_value rfl (exec_adW0 rfl) ?_) | (refine st_stO rfl rfl isAddr (adV_one _ _) q2y (by rfl) (by rfl) ?_; intro u3 q3 o3; refine Hid.out ?_))
                    refine Hid.mk ?_
                    go_wp2_with fail
                    exact bodyPost_ret (res_ct rfl isAddr q3 (by rfl) (by rfl)) rfl ⟨.inr ⟨HN.out, rfl⟩, hB.trans (o3.below hg2)⟩
              · obtain rfl : k = M := by omega
                have hkMi : ¬ (k : Int) < (k : Int) := by omega
                have hfold : foldD 0 (lsT s) = some n := by
                  have h1 := HK.out.1
                  rwa [List.take_of_length_le (by rw [lsT_len]; omega)] at h1
                have hbv := HBV.out n hfold
                have HBV2 := Hid.mk hbv
                clear hbv hfold HBV HBN0 HK
                go_upto_region 18 with (first | (refine wl_value rfl (exec_ixSt (i := i) rfl (by rfl) (by rfl) hi4) ?_) | (refine wl_value rfl (exec_ld rfl (by rfl) (load_str HCE.out)) ?_))
                obtain ⟨wI, hwI⟩ : ∃ x, x = wr := ⟨_, rfl⟩
                rw [← hwI] at HS HCE hB ⊢
                clear hwI q2z
                by_cases hn : 255 < n
                · have hgt : decide ((255 : Int) < (n : Int)) = true := decide_eq_true (by omega)
                  have HN : Hid (R = none) := Hid.mk (HNO.out (by rw [HBV2.out, if_neg (by omega)]))
                  clear HBV2
                  refine wp_region3 (Below wI.heap.size wI) wI.heap.size
                      ([] : List (Nat × Cont))
                      [kv (.int .i64 (n : Int)), kv (.bool true), kv (.bool true), kv (undef), kv (undef), kv (undef), kv (undef), kv (undef), kv (undef), kv (undef), kv (.bool true)]
                      [.none, .none, .none, .none, .none, .none, .none, .none, .none, .none, .none]
                      [some 63, some 64, some 65, some 66, some 67, some 68, some 69, some 70, some 71, some 72, some 73]
                      [(7, .int .i64 (n : Int)), (4, .slice (some ad) 4 cp), (6, .int .i64 (i : Int))]
                      [[], [.slot 0], [.slot 1], [.slot 2], [.slot 2], [.slot 2], [.slot 2], [.slot 2], [.slot 2], [.slot 2], [.slot 2]]
                      [.slot 10] [63, 64, 65, 66, 67, 68, 69, 70, 71, 72, 73]
                      rfl (by kernel_rfl) ⟨rfl, rfl, rfl, trivial⟩ ((Below.refl _ wI).drew) (Nat.le_refl _) trivial trivial (below_GcW (Nat.le_refl _))
                      ⟨
                        (fun Q aq ww own hS hBg fr kn => .inl ⟨trivial, fun K hK => wp_value (exec_move rfl fr.1) (hK _ _ ⟨Touch.refl _ _, rfl⟩)⟩),
                        (fun Q aq ww own hS hBg fr kn => .inl ⟨trivial, fun K hK => wp_value (exec_gtW rfl kn.1 rfl hgt) (hK _ _ ⟨Touch.refl _ _, rfl⟩)⟩),
                        (fun Q aq ww own hS hBg fr kn => .inl ⟨trivial, fun K hK => wp_value (exec_move rfl kn.1) (hK _ _ ⟨Touch.refl _ _, rfl⟩)⟩),
                        (fun Q aq ww own hS hBg fr kn => .inr ⟨.inl kn.1, ⟨Touch.refl _ _, rfl⟩⟩),
                        (fun Q aq ww own hS hBg fr kn => .inr ⟨.inl kn.1, ⟨Touch.refl _ _, rfl⟩⟩),
                        (fun Q aq ww own hS hBg fr kn => .inr ⟨.inl kn.1, ⟨Touch.refl _ _, rfl⟩⟩),
                        (fun Q aq ww own hS hBg fr kn => .inr ⟨.inl kn.1, ⟨Touch.refl _ _, rfl⟩⟩),
                        (fun Q aq ww own hS hBg fr kn => .inr ⟨.inl kn.1, ⟨Touch.refl _ _, rfl⟩⟩),
                        (fun Q aq ww own hS hBg fr kn => .inr ⟨.inl kn.1, ⟨Touch.refl _ _, rfl⟩⟩),
                        (fun Q aq ww own hS hBg fr kn => .inr ⟨.inl kn.1, ⟨Touch.refl _ _, rfl⟩⟩),
                        (fun Q aq ww own hS hBg fr kn => .inl ⟨trivial, fun K hK => wp_value (exec_pick (v := .bool true) rfl kn.1 rfl) (hK _ _ ⟨Touch.refl _ _, rfl⟩)⟩),
                        trivial⟩ ?_
                  intro vs own u6 hB6 hsz6 kn inj
                  have e73 : vs 73 = .bool true := kn.1
                  clear kn inj hsz6
                  simp only [putAll, Act.put, List.setIfInBounds_toArray, List.set_cons_zero, List.set_cons_succ, e73]
                  clear e73
                  have q2y := SAt.kept HS.out.2.2.2.2.1 hB6
                  have hBy := hB.trans (hB6.mono hB.size)
                  go_wp2_with (first | (refine wl_value rfl (exec_adW0 rfl) ?_) | (refine st_stO rfl rfl isAddr (adV_one _ _) q2y (by rfl) (by rfl) ?_; intro u3 q3 o3; refine Hid.out ?_))
                  refine Hid.mk ?_
                  go_wp2_with fail
                  exact bodyPost_ret (res_ct rfl isAddr q3 (by rfl) (by rfl)) rfl ⟨.inr ⟨HN.out, rfl⟩, hBy.trans (o3.below hg2)⟩
                · have hgt : decide ((255 : Int) < (n : Int)) = false := decide_eq_false (by omega)
                  have hn256 : n < 256 := by omega
                  have HIT : Hid (∀ ww, Below wI.heap.size wI ww → Calls Tryd.prog 39 #[.int .i64 (n : Int)] ww fun e w' => e = .returned (.string (decS n)) ∧ Below ww.heap.size ww w') := Hid.mk (fun ww hb => Itoa_run n ww hn256 (HS.out.2.2.2.2.2.kept hb))
                  have HCW : Hid (∀ ww, Below wI.heap.size wI ww → ww.cell? (ad.add i) = some (.string s)) := Hid.mk (fun ww hb => (hb.cell (World.block_lt_of_cell? _ _ HCE.out)).trans HCE.out)
                  obtain ⟨bne, hbne⟩ : ∃ b, decide (decS n ≠ s) = b := ⟨_, rfl⟩
                  have HBN := Hid.mk hbne
                  clear hbne
                  refine wp_region3 (Below wI.heap.size wI) wI.heap.size
                      ([] : List (Nat × Cont))
                      [kv (.int .i64 (n : Int)), kv (.bool false), kv (.bool false), kv (.int .i64 (n : Int)), kv (.string (decS n)), kv (.slice (some ad) 4 cp), kv (.int .i64 (i : Int)), kv (.pointer (some (ad.add i))), kv (.string s), kv (.bool bne), kv (.bool bne)]
                      [.none, .none, .none, .none, .none, .none, .none, .none, .none, .none, .none]
                      [some 63, some 64, some 65, some 66, some 67, some 68, some 69, some 70, some 71, some 72, some 73]
                      [(7, .int .i64 (n : Int)), (4, .slice (some ad) 4 cp), (6, .int .i64 (i : Int))]
                      [[], [.slot 0], [.slot 1], [.slot 2], [.slot 2, .slot 3], [.slot 2], [.slot 2], [.slot 2, .slot 5, .slot 6], [.slot 2, .slot 7], [.slot 2, .slot 4, .slot 8], [.slot 2, .slot 9]]
                      [.slot 10] [63, 64, 65, 66, 67, 68, 69, 70, 71, 72, 73]
                      rfl (by kernel_rfl) ⟨rfl, rfl, rfl, trivial⟩ ((Below.refl _ wI).drew) (Nat.le_refl _) trivial trivial (below_GcW (Nat.le_refl _))
                      ⟨
                        (fun Q aq ww own hS hBg fr kn => .inl ⟨trivial, fun K hK => wp_value (exec_move rfl fr.1) (hK _ _ ⟨Touch.refl _ _, rfl⟩)⟩),
                        (fun Q aq ww own hS hBg fr kn => .inl ⟨trivial, fun K hK => wp_value (exec_gtW rfl kn.1 rfl hgt) (hK _ _ ⟨Touch.refl _ _, rfl⟩)⟩),
                        (fun Q aq ww own hS hBg fr kn => .inl ⟨trivial, fun K hK => wp_value (exec_move rfl kn.1) (hK _ _ ⟨Touch.refl _ _, rfl⟩)⟩),
                        (fun Q aq ww own hS hBg fr kn => .inl ⟨kn.1, fun K hK => wp_value (exec_move rfl fr.1) (hK _ _ ⟨Touch.refl _ _, rfl⟩)⟩),
                        (fun Q aq ww own hS hBg fr kn => .inl ⟨kn.1, fun K hK => stepc enterW_It rfl (args1 kn.2.1) (HIT.out ww hS) (fun w' hb => hK _ _ ⟨touch_below hb, rfl⟩)⟩),
                        (fun Q aq ww own hS hBg fr kn => .inl ⟨kn.1, fun K hK => wp_value (exec_move rfl fr.2.1) (hK _ _ ⟨Touch.refl _ _, rfl⟩)⟩),
                        (fun Q aq ww own hS hBg fr kn => .inl ⟨kn.1, fun K hK => wp_value (exec_move rfl fr.2.2.1) (hK _ _ ⟨Touch.refl _ _, rfl⟩)⟩),
                        (fun Q aq ww own hS hBg fr kn => .inl ⟨kn.1, fun K hK => wp_value (exec_ixSt (i := i) rfl kn.2.1 kn.2.2.1 hi4) (hK _ _ ⟨Touch.refl _ _, rfl⟩)⟩),
                        (fun Q aq ww own hS hBg fr kn => .inl ⟨kn.1, fun K hK => wp_value (exec_ld rfl kn.2.1 (load_str (HCW.out ww hS))) (hK _ _ ⟨Touch.refl _ _, rfl⟩)⟩),
                        (fun Q aq ww own hS hBg fr kn => .inl ⟨kn.1, fun K hK => wp_value (exec_neSn rfl kn.2.1 kn.2.2.1 HBN.out) (hK _ _ ⟨Touch.refl _ _, rfl⟩)⟩),
                        (fun Q aq ww own hS hBg fr kn => .inl ⟨trivial, fun K hK => wp_value (exec_pickF (v := .bool bne) rfl kn.1 kn.2.1) (hK _ _ ⟨Touch.refl _ _, rfl⟩)⟩),
                        trivial⟩ ?_
                  intro vs own u6 hB6 hsz6 kn inj
                  have e73 : vs 73 = .bool bne := kn.1
                  clear kn inj hsz6
                  simp only [putAll, Act.put, List.setIfInBounds_toArray, List.set_cons_zero, List.set_cons_succ, e73]
                  clear e73
                  have hBy := hB.trans (hB6.mono hB.size)
                  cases bne
                  · have hsn : decS n = s := by have := HBN.out; simpa using this
                    have hval : byteV (lsT s) = some n := by rw [HBV2.out, if_pos ⟨by omega, by rw [← hsn, decS_ls]⟩]
                    have q5y := SAt.kept HS.out.2.2.2.1 hB6
                    have HX : Hid ((l ++ [n]).length = i + 1 ∧ allO byteV (S.take (i + 1)) = some (l ++ [n])) := Hid.mk ⟨by rw [List.length_append, HS.out.1]; rfl, by
                      rw [List.take_add_one, HSI.out]
                      exact allO_snoc _ _ _ _ HS.out.2.1 hval⟩
                    clear HBN HIT HCW HBV2
                    go_wp2_with (first | (refine wl_value rfl (exec_cvI8 rfl (by rfl) hn256) ?_) | (refine wl_value rfl (exec_fadW1 rfl (by rfl)) ?_) | (refine wl_value rfl (exec_ixW16 (k := i) rfl (by rfl) (by rfl) (by omega)) ?_) | (refine wl_stA (k := i) rfl rfl q5y (by rfl) (by rfl) (by omega) ?_; intro w7 q7 o7; refine Hid.out ?_))
                    refine Hid.mk ?_
                    have HY : Hid ((l ++ [n]).length = i + 1 ∧ allO byteV (S.take (i + 1)) = some (l ++ [n]) ∧ OwnS w7 u1.heap.size (.slice (some ad) 4 cp) ps ∧ SAt w7 g5 40 17 (adV false (lsB (l ++ [n]))) ∧ SAt w7 g2 40 17 (adV false (fun _ => 0)) ∧ Pow w7) := Hid.mk ⟨HX.out.1, HX.out.2, (HS.out.2.2.1.kept hB6).only o7 q5y, q7.congr (fun j hj => by
                      unfold adV
                      by_cases e : j < 1
                      · rw [if_pos e, if_pos e]
                      · rw [if_neg e, if_neg e]
                        congr 1
                        exact lsB_upd HS.out.1 n (j - 1)), (SAt.kept HS.out.2.2.2.2.1 hB6).only o7 h25, Pow.only HP.out (HS.out.2.2.2.2.2.kept hB6) o7 hg5w⟩
                    have hBz : Below w.heap.size w w7 := hBy.trans (o7.below hg5w)
                    clear q5y q7 o7 HX hBy hB6 HS hB HCE
                    go_wp2_with fail
                    go_roundg (4 - (i + 1))
                    case rel => exact ⟨i + 1, l ++ [n], rfl, by omega, by go_num, HY, hBz⟩
                    case measure => omega
                  · have hsn : decS n ≠ s := by have := HBN.out; simpa using this
                    have HN : Hid (R = none) := Hid.mk (HNO.out (by rw [HBV2.out, if_neg (fun e => hsn (lsT_inj (by rw [decS_ls]; exact e.2)))]))
                    have q2y := SAt.kept HS.out.2.2.2.2.1 hB6
                    clear HBN HIT HCW HBV2
                    go_wp2_with (first | (refine wl_value rfl (exec_adW0 rfl) ?_) | (refine st_stO rfl rfl isAddr (adV_one _ _) q2y (by rfl) (by rfl) ?_; intro u3 q3 o3; refine Hid.out ?_))
                    refine Hid.mk ?_
                    go_wp2_with fail
                    exact bodyPost_ret (res_ct rfl isAddr q3 (by rfl) (by rfl)) rfl ⟨.inr ⟨HN.out, rfl⟩, hBy.trans (o3.below hg2)⟩
      · obtain rfl : i = 4 := by omega
        have HT : Hid (R = some l) := Hid.mk (by
          have h2 := HS.out.2.1
          rw [List.take_of_length_le (by rw [← HPS.out, List.length_map]; omega)] at h2
          rw [HF.out, h2])
        have q5z := HS.out.2.2.2.1
        have q2z := HS.out.2.2.2.2.1
        go_wp2_with (first | (refine wl_value rfl (look_st rfl isAddr q5z (by rfl)) ?_) | (refine st_stO rfl rfl isAddr (adV_one _ _) q2z (by rfl) (by rfl) ?_; intro u4 q4 o4; refine Hid.out ?_))
        refine Hid.mk ?_
        go_wp2_with fail
        exact bodyPost_ret (res_ct rfl isAddr q4 (by rfl) (by rfl)) rfl ⟨.inl ⟨l, HT.out, rfl⟩, hB.trans (o4.below hg2)⟩
  · have h4b : ((ps.length : Int) != 4) = true := bne_iff_ne.2 (by omega)
    have HN : Hid (R = none) := Hid.mk (by rw [HFV.out, if_neg (by rw [← HPS.out, List.length_map]; exact h4)])
    go_wp2_with (first | (refine wl_value rfl (exec_adW0 rfl) ?_) | (refine st_stO rfl rfl isAddr (adV_one _ _) q2a (by rfl) (by rfl) ?_; intro u3 q3 o3; refine Hid.out ?_))
    refine Hid.mk ?_
    go_wp2_with fail
    exact bodyPost_ret (res_ct rfl isAddr q3 (by rfl) (by rfl)) rfl ⟨.inr ⟨HN.out, rfl⟩, hBa.trans (o3.below hg2)⟩
end Go.Proofs.YtklgpmpmolphaaaDoor
/-
  Own text. The contracts of strings.Join, SplitN, Cut, Repeat and of strconv.ParseUint at this program.
-/
namespace Go.Proofs.YtklgpmpmolphaaaDoor
open Go.Proofs Go.Shelf
set_option maxRecDepth 100000
def sh_lays156_ren : Go.Shelf.Ren := ⟨fun | 156 => 49 | 165 => 60 | 166 => 61 | 169 => 62 | 240 => 74 | 241 => 75 | 276 => 94 | 277 => 95 | n => n, fun | 31 => 22 | 9 => 9 | 3 => 3 | 4 => 4 | 0 => 0 | 20 => 20 | 72 => 84 | 76 => 86 | 70 => 82 | 37 => 55 | 75 => 72 | 127 => 99 | 164 => 118 | 5 => 5 | 80 => 88 | n => n, fun | n => n⟩
theorem sh_lays156 : Go.Proofs.Lays.n156 Tryd.prog sh_lays156_ren := {
  mixed := by kernel_rfl
  f156 := Tryd.func49.trans (congrArg some (by kernel_rfl))
  f165 := Tryd.func60.trans (congrArg some (by kernel_rfl))
  f166 := Tryd.func61.trans (congrArg some (by kernel_rfl))
  f169 := Tryd.func62.trans (congrArg some (by kernel_rfl))
  f240 := Tryd.func74.trans (congrArg some (by kernel_rfl))
  f241 := Tryd.func75.trans (congrArg some (by kernel_rfl))
  f276 := Tryd.func94.trans (congrArg some (by kernel_rfl))
  f277 := Tryd.func95.trans (congrArg some (by kernel_rfl))
  t0 := Tryd.underlying0
  a0 := Tryd.isAgg0
  z0 := Tryd.sizeOf0
  v0 := Tryd.zeroValue0
  t3 := Tryd.underlying3
  a3 := Tryd.isAgg3
  z3 := Tryd.sizeOf3
  v3 := Tryd.zeroValue3
  t4 := Tryd.underlying4
  a4 := Tryd.isAgg4
  z4 := Tryd.sizeOf4
  v4 := Tryd.zeroValue4
  t9 := Tryd.underlying9
  a9 := Tryd.isAgg9
  z9 := Tryd.sizeOf9
  v9 := Tryd.zeroValue9
  t20 := Tryd.underlying20
  a20 := Tryd.isAgg20
  z20 := Tryd.sizeOf20
  v20 := Tryd.zeroValue20
  t31 := Tryd.underlying22
  a31 := Tryd.isAgg22
  z31 := Tryd.sizeOf22
  v31 := Tryd.zeroValue22
  t37 := Tryd.underlying55
  a37 := Tryd.isAgg55
  z37 := Tryd.sizeOf55
  v37 := Tryd.zeroValue55
  t70 := Tryd.underlying82
  a70 := Tryd.isAgg82
  z70 := Tryd.sizeOf82
  v70 := Tryd.zeroValue82
  t72 := Tryd.underlying84
  a72 := Tryd.isAgg84
  z72 := Tryd.sizeOf84
  v72 := Tryd.zeroValue84
  t75 := Tryd.underlying72
  a75 := Tryd.isAgg72
  z75 := Tryd.sizeOf72
  v75 := Tryd.zeroValue72
  t76 := Tryd.underlying86
  a76 := Tryd.isAgg86
  z76 := Tryd.sizeOf86
  v76 := Tryd.zeroValue86
  t127 := Tryd.underlying99
  a127 := Tryd.isAgg99
  z127 := Tryd.sizeOf99
  v127 := Tryd.zeroValue99
  t164 := Tryd.underlying118
  a164 := Tryd.isAgg118
  z164 := Tryd.sizeOf118
  v164 := Tryd.zeroValue118 }
theorem sh_Builder_Extra_156 : Builder.Extra Tryd.prog sh_lays156_ren := {
  sizeBuilder := by kernel_rfl
  liesBuilder := by kernel_rfl
  t5 := Tryd.underlying5
  a5 := Tryd.isAgg5
  z5 := Tryd.sizeOf5
  v5 := Tryd.zeroValue5
  infoByte := by kernel_rfl
  cellsByte := by kernel_rfl
  sizeByte := by kernel_rfl
  neB5 := by decide }
open Go.RowKit in
theorem sh_strings_Join_none (a : Option Addr) (c : Nat) (sep : ByteArray) (w : World) :
    Calls Tryd.prog 49 #[.slice a 0 c, .string sep] w fun e w' => e = .returned (.string ⟨#[]⟩) ∧ w' = w := Any.strings_Join_none sh_lays156 sh_Builder_Extra_156 a c sep w
open Go.RowKit in
theorem sh_strings_Join (bk o c : Nat) (xs : List ByteArray) (sep : ByteArray) (w : World) (hcells : ∀ (j : Nat) x, xs[j]? = some x → w.cell? ⟨bk, o + j, none⟩ = some (.string x)) (hbk : bk < w.heap.size) (hN : xs.length ≤ 140737488355328) (hcap : xs.length ≤ c) (hlen : (Lib.join (xs.map (·.data.toList)) sep.data.toList).length ≤ 140737488355328) :
    Calls Tryd.prog 49 #[.slice (some ⟨bk, o, none⟩) xs.length c, .string sep] w fun e w' => e = .returned (.string ⟨(Lib.join (xs.map (·.data.toList)) sep.data.toList).toArray⟩) ∧ Below w.heap.size w w' := Any.strings_Join sh_lays156 sh_Builder_Extra_156 bk o c xs sep w hcells hbk hN hcap hlen
def sh_lays147_ren : Go.Shelf.Ren := ⟨fun | 147 => 52 | 221 => 67 | 268 => 81 | 138 => 82 | 143 => 83 | 195 => 98 | 197 => 99 | 218 => 100 | 219 => 90 | 260 => 107 | 217 => 103 | 225 => 104 | 224 => 105 | 267 => 106 | 266 => 108 | 314 => 109 | n => n, fun | 9 => 9 | 3 => 3 | 31 => 22 | 4 => 4 | 0 => 0 | 105 => 123 | 21 => 21 | 5 => 5 | 46 => 36 | 119 => 136 | 139 => 139 | 138 => 138 | 146 => 114 | 51 => 103 | n => n, fun | 1 => 3 | 3 => 6 | 4 => 7 | n => n⟩
theorem sh_lays147 : Go.Proofs.Lays.n147 Tryd.prog sh_lays147_ren := {
  mixed := by kernel_rfl
  f138 := Tryd.func82.trans (congrArg some (by kernel_rfl))
  f143 := Tryd.func83.trans (congrArg some (by kernel_rfl))
  f147 := Tryd.func52.trans (congrArg some (by kernel_rfl))
  f195 := Tryd.func98.trans (congrArg some (by kernel_rfl))
  f197 := Tryd.func99.trans (congrArg some (by kernel_rfl))
  f217 := Tryd.func103.trans (congrArg some (by kernel_rfl))
  f218 := Tryd.func100.trans (congrArg some (by kernel_rfl))
  f219 := Tryd.func90.trans (congrArg some (by kernel_rfl))
  f221 := Tryd.func67.trans (congrArg some (by kernel_rfl))
  f224 := Tryd.func105.trans (congrArg some (by kernel_rfl))
  f225 := Tryd.func104.trans (congrArg some (by kernel_rfl))
  f260 := Tryd.func107.trans (congrArg some (by kernel_rfl))
  f266 := Tryd.func108.trans (congrArg some (by kernel_rfl))
  f267 := Tryd.func106.trans (congrArg some (by kernel_rfl))
  f268 := Tryd.func81.trans (congrArg some (by kernel_rfl))
  f314 := Tryd.func109.trans (congrArg some (by kernel_rfl))
  t0 := Tryd.underlying0
  a0 := Tryd.isAgg0
  z0 := Tryd.sizeOf0
  v0 := Tryd.zeroValue0
  t3 := Tryd.underlying3
  a3 := Tryd.isAgg3
  z3 := Tryd.sizeOf3
  v3 := Tryd.zeroValue3
  t4 := Tryd.underlying4
  a4 := Tryd.isAgg4
  z4 := Tryd.sizeOf4
  v4 := Tryd.zeroValue4
  t5 := Tryd.underlying5
  a5 := Tryd.isAgg5
  z5 := Tryd.sizeOf5
  v5 := Tryd.zeroValue5
  t9 := Tryd.underlying9
  a9 := Tryd.isAgg9
  z9 := Tryd.sizeOf9
  v9 := Tryd.zeroValue9
  t21 := Tryd.underlying21
  a21 := Tryd.isAgg21
  z21 := Tryd.sizeOf21
  v21 := Tryd.zeroValue21
  t31 := Tryd.underlying22
  a31 := Tryd.isAgg22
  z31 := Tryd.sizeOf22
  v31 := Tryd.zeroValue22
  t46 := Tryd.underlying36
  a46 := Tryd.isAgg36
  z46 := Tryd.sizeOf36
  v46 := Tryd.zeroValue36
  t51 := Tryd.underlying103
  a51 := Tryd.isAgg103
  z51 := Tryd.sizeOf103
  v51 := Tryd.zeroValue103
  t105 := Tryd.underlying123
  a105 := Tryd.isAgg123
  z105 := Tryd.sizeOf123
  v105 := Tryd.zeroValue123
  t119 := Tryd.underlying136
  a119 := Tryd.isAgg136
  z119 := Tryd.sizeOf136
  t138 := Tryd.underlying138
  a138 := Tryd.isAgg138
  z138 := Tryd.sizeOf138
  v138 := Tryd.zeroValue138
  t139 := Tryd.underlying139
  a139 := Tryd.isAgg139
  z139 := Tryd.sizeOf139
  v139 := Tryd.zeroValue139
  t146 := Tryd.underlying114
  a146 := Tryd.isAgg114
  z146 := Tryd.sizeOf114
  v146 := Tryd.zeroValue114
  g1 := by kernel_rfl
  g3 := by kernel_rfl
  g4 := by kernel_rfl }
open Go.RowKit Go.Lib in
theorem sh_strings_SplitN (s sep : ByteArray) (n : Nat) (m : Int) (w : World) (hs : s.size < 4294967281) (hm : w.cell? ⟨3, 0, none⟩ = some (.int .i64 m)) (h1 : 1 ≤ sep.size) (hn : 1 ≤ n) (hn63 : n ≤ 9223372036854775807) :
    Calls Tryd.prog 52 #[.string s, .string sep, .int .i64 n] w fun e w' =>
      e = .returned (.slice (some ⟨w.heap.size, 0, none⟩) (Lib.splitB sep 0 (min n (s.size + 1) - 1) s).length (min n (s.size + 1))) ∧ w' = w.alloc (.cells (Lib.cellsOf (Lib.splitB sep 0 (min n (s.size + 1) - 1) s) (min n (s.size + 1))) 9) := Any.strings_SplitN sh_lays147 (by kernel_rfl) s sep n m w hs hm h1 hn hn63
def sh_lays145_ren : Go.Shelf.Ren := ⟨fun | 145 => 54 | 220 => 70 | 219 => 90 | 217 => 103 | 225 => 104 | 224 => 105 | 267 => 106 | 266 => 108 | 314 => 109 | n => n, fun | 9 => 9 | 4 => 4 | 59 => 75 | 3 => 3 | 5 => 5 | 46 => 36 | 146 => 114 | 51 => 103 | n => n, fun | 1 => 3 | n => n⟩
theorem sh_lays145 : Go.Proofs.Lays.n145 Tryd.prog sh_lays145_ren := {
  mixed := by kernel_rfl
  f145 := Tryd.func54.trans (congrArg some (by kernel_rfl))
  f217 := Tryd.func103.trans (congrArg some (by kernel_rfl))
  f219 := Tryd.func90.trans (congrArg some (by kernel_rfl))
  f220 := Tryd.func70.trans (congrArg some (by kernel_rfl))
  f224 := Tryd.func105.trans (congrArg some (by kernel_rfl))
  f225 := Tryd.func104.trans (congrArg some (by kernel_rfl))
  f266 := Tryd.func108.trans (congrArg some (by kernel_rfl))
  f267 := Tryd.func106.trans (congrArg some (by kernel_rfl))
  f314 := Tryd.func109.trans (congrArg some (by kernel_rfl))
  t3 := Tryd.underlying3
  a3 := Tryd.isAgg3
  z3 := Tryd.sizeOf3
  v3 := Tryd.zeroValue3
  t4 := Tryd.underlying4
  a4 := Tryd.isAgg4
  z4 := Tryd.sizeOf4
  v4 := Tryd.zeroValue4
  t5 := Tryd.underlying5
  a5 := Tryd.isAgg5
  z5 := Tryd.sizeOf5
  v5 := Tryd.zeroValue5
  t9 := Tryd.underlying9
  a9 := Tryd.isAgg9
  z9 := Tryd.sizeOf9
  v9 := Tryd.zeroValue9
  t46 := Tryd.underlying36
  a46 := Tryd.isAgg36
  z46 := Tryd.sizeOf36
  v46 := Tryd.zeroValue36
  t51 := Tryd.underlying103
  a51 := Tryd.isAgg103
  z51 := Tryd.sizeOf103
  v51 := Tryd.zeroValue103
  t59 := Tryd.underlying75
  a59 := Tryd.isAgg75
  z59 := Tryd.sizeOf75
  v59 := Tryd.zeroValue75
  t146 := Tryd.underlying114
  a146 := Tryd.isAgg114
  z146 := Tryd.sizeOf114
  v146 := Tryd.zeroValue114
  g1 := by kernel_rfl }
open Go.RowKit Go.Lib in
theorem sh_strings_Cut (s sep : ByteArray) (m : Int) (w : World) (hs : s.size < 4294967281) (hm : w.cell? ⟨3, 0, none⟩ = some (.int .i64 m)) :
    Calls Tryd.prog 54 #[.string s, .string sep] w fun e w' => e = .returned (.tuple #[.string ⟨(Lib.cut s.data.toList sep.data.toList).1.toArray⟩, .string ⟨(Lib.cut s.data.toList sep.data.toList).2.1.toArray⟩, .bool (Lib.cut s.data.toList sep.data.toList).2.2]) ∧ ∃ n, w' = w.drewN n := Any.strings_Cut sh_lays145 s sep m w hs hm
def sh_lays105_ren : Go.Shelf.Ren := ⟨fun | 105 => 56 | 212 => 71 | 99 => 72 | 165 => 60 | 166 => 61 | 170 => 73 | 169 => 62 | 263 => 91 | 264 => 92 | 206 => 93 | 240 => 74 | 241 => 75 | 276 => 94 | 277 => 95 | n => n, fun | 9 => 9 | 3 => 3 | 4 => 4 | 20 => 20 | 0 => 0 | 46 => 36 | 109 => 95 | 5 => 5 | 72 => 84 | 76 => 86 | 51 => 103 | 146 => 114 | 53 => 29 | 148 => 116 | 70 => 82 | 37 => 55 | 75 => 72 | 127 => 99 | 164 => 118 | 80 => 88 | n => n, fun | n => n⟩
theorem sh_lays105 : Go.Proofs.Lays.n105 Tryd.prog sh_lays105_ren := {
  mixed := by kernel_rfl
  f99 := Tryd.func72.trans (congrArg some (by kernel_rfl))
  f105 := Tryd.func56.trans (congrArg some (by kernel_rfl))
  f165 := Tryd.func60.trans (congrArg some (by kernel_rfl))
  f166 := Tryd.func61.trans (congrArg some (by kernel_rfl))
  f169 := Tryd.func62.trans (congrArg some (by kernel_rfl))
  f170 := Tryd.func73.trans (congrArg some (by kernel_rfl))
  f206 := Tryd.func93.trans (congrArg some (by kernel_rfl))
  f212 := Tryd.func71.trans (congrArg some (by kernel_rfl))
  f240 := Tryd.func74.trans (congrArg some (by kernel_rfl))
  f241 := Tryd.func75.trans (congrArg some (by kernel_rfl))
  f263 := Tryd.func91.trans (congrArg some (by kernel_rfl))
  f264 := Tryd.func92.trans (congrArg some (by kernel_rfl))
  f276 := Tryd.func94.trans (congrArg some (by kernel_rfl))
  f277 := Tryd.func95.trans (congrArg some (by kernel_rfl))
  t0 := Tryd.underlying0
  a0 := Tryd.isAgg0
  z0 := Tryd.sizeOf0
  v0 := Tryd.zeroValue0
  t3 := Tryd.underlying3
  a3 := Tryd.isAgg3
  z3 := Tryd.sizeOf3
  v3 := Tryd.zeroValue3
  t4 := Tryd.underlying4
  a4 := Tryd.isAgg4
  z4 := Tryd.sizeOf4
  v4 := Tryd.zeroValue4
  t5 := Tryd.underlying5
  a5 := Tryd.isAgg5
  z5 := Tryd.sizeOf5
  v5 := Tryd.zeroValue5
  t9 := Tryd.underlying9
  a9 := Tryd.isAgg9
  z9 := Tryd.sizeOf9
  v9 := Tryd.zeroValue9
  t20 := Tryd.underlying20
  a20 := Tryd.isAgg20
  z20 := Tryd.sizeOf20
  v20 := Tryd.zeroValue20
  t37 := Tryd.underlying55
  a37 := Tryd.isAgg55
  z37 := Tryd.sizeOf55
  v37 := Tryd.zeroValue55
  t46 := Tryd.underlying36
  a46 := Tryd.isAgg36
  z46 := Tryd.sizeOf36
  v46 := Tryd.zeroValue36
  t51 := Tryd.underlying103
  a51 := Tryd.isAgg103
  z51 := Tryd.sizeOf103
  v51 := Tryd.zeroValue103
  t53 := Tryd.underlying29
  a53 := Tryd.isAgg29
  z53 := Tryd.sizeOf29
  v53 := Tryd.zeroValue29
  t70 := Tryd.underlying82
  a70 := Tryd.isAgg82
  z70 := Tryd.sizeOf82
  v70 := Tryd.zeroValue82
  t72 := Tryd.underlying84
  a72 := Tryd.isAgg84
  z72 := Tryd.sizeOf84
  v72 := Tryd.zeroValue84
  t75 := Tryd.underlying72
  a75 := Tryd.isAgg72
  z75 := Tryd.sizeOf72
  v75 := Tryd.zeroValue72
  t76 := Tryd.underlying86
  a76 := Tryd.isAgg86
  z76 := Tryd.sizeOf86
  v76 := Tryd.zeroValue86
  t109 := Tryd.underlying95
  a109 := Tryd.isAgg95
  z109 := Tryd.sizeOf95
  v109 := Tryd.zeroValue95
  t127 := Tryd.underlying99
  a127 := Tryd.isAgg99
  z127 := Tryd.sizeOf99
  v127 := Tryd.zeroValue99
  t146 := Tryd.underlying114
  a146 := Tryd.isAgg114
  z146 := Tryd.sizeOf114
  v146 := Tryd.zeroValue114
  t148 := Tryd.underlying116
  a148 := Tryd.isAgg116
  z148 := Tryd.sizeOf116
  v148 := Tryd.zeroValue116
  t164 := Tryd.underlying118
  a164 := Tryd.isAgg118
  z164 := Tryd.sizeOf118
  v164 := Tryd.zeroValue118 }
theorem sh_Builder_Extra_105 : Builder.Extra Tryd.prog sh_lays105_ren := {
  sizeBuilder := by kernel_rfl
  liesBuilder := by kernel_rfl
  t5 := Tryd.underlying5
  a5 := Tryd.isAgg5
  z5 := Tryd.sizeOf5
  v5 := Tryd.zeroValue5
  infoByte := by kernel_rfl
  cellsByte := by kernel_rfl
  sizeByte := by kernel_rfl
  neB5 := by decide }
open Go.RowKit Go.Lib in
theorem sh_strings_Repeat (s : ByteArray) (c : Nat) (w : World) (hc : c ≤ 9223372036854775807) (hlen : s.size * c ≤ 140737488355328) :
    Calls Tryd.prog 56 #[.string s, .int .i64 c] w fun e w' => e = .returned (.string ⟨(Lib.repeatL s.data.toList c).toArray⟩) ∧ Below w.heap.size w w' := Any.strings_Repeat sh_lays105 sh_Builder_Extra_105 s c w hc hlen
def sh_laysPu14_ren : Go.Shelf.Ren := ⟨fun | 14 => 53 | 16 => 68 | 17 => 69 | 19 => 84 | 20 => 85 | 21 => 86 | 22 => 87 | 23 => 88 | 24 => 89 | 25 => 101 | 27 => 39 | 26 => 102 | 28 => 50 | 29 => 51 | 30 => 63 | 31 => 64 | 32 => 65 | 33 => 66 | 35 => 77 | 34 => 76 | 36 => 78 | 37 => 79 | 38 => 80 | 39 => 96 | 40 => 97 | n => n, fun | 9 => 9 | 3 => 3 | 22 => 29 | 24 => 72 | 25 => 73 | 4 => 4 | 34 => 109 | 5 => 5 | 36 => 36 | 37 => 55 | 0 => 0 | 39 => 111 | 21 => 21 | 44 => 128 | 47 => 99 | 50 => 134 | 48 => 132 | 2 => 2 | 52 => 89 | 55 => 91 | 59 => 102 | 60 => 103 | 20 => 20 | 61 => 104 | 65 => 130 | 66 => 131 | 67 => 88 | n => n, fun | 0 => 1 | 1 => 2 | 2 => 0 | 3 => 4 | 4 => 5 | n => n⟩
theorem sh_laysPu14 : Go.Proofs.LaysPu.n14 Tryd.prog sh_laysPu14_ren := {
  mixed := by kernel_rfl
  f14 := Tryd.func53.trans (congrArg some (by kernel_rfl))
  f16 := Tryd.func68.trans (congrArg some (by kernel_rfl))
  f17 := Tryd.func69.trans (congrArg some (by kernel_rfl))
  f19 := Tryd.func84.trans (congrArg some (by kernel_rfl))
  f20 := Tryd.func85.trans (congrArg some (by kernel_rfl))
  f21 := Tryd.func86.trans (congrArg some (by kernel_rfl))
  f22 := Tryd.func87.trans (congrArg some (by kernel_rfl))
  f23 := Tryd.func88.trans (congrArg some (by kernel_rfl))
  f24 := Tryd.func89.trans (congrArg some (by kernel_rfl))
  f25 := Tryd.func101.trans (congrArg some (by kernel_rfl))
  f26 := Tryd.func102.trans (congrArg some (by kernel_rfl))
  f27 := Tryd.func39.trans (congrArg some (by kernel_rfl))
  f28 := Tryd.func50.trans (congrArg some (by kernel_rfl))
  f29 := Tryd.func51.trans (congrArg some (by kernel_rfl))
  f30 := Tryd.func63.trans (congrArg some (by kernel_rfl))
  f31 := Tryd.func64.trans (congrArg some (by kernel_rfl))
  f32 := Tryd.func65.trans (congrArg some (by kernel_rfl))
  f33 := Tryd.func66.trans (congrArg some (by kernel_rfl))
  f34 := Tryd.func76.trans (congrArg some (by kernel_rfl))
  f35 := Tryd.func77.trans (congrArg some (by kernel_rfl))
  f36 := Tryd.func78.trans (congrArg some (by kernel_rfl))
  f37 := Tryd.func79.trans (congrArg some (by kernel_rfl))
  f38 := Tryd.func80.trans (congrArg some (by kernel_rfl))
  f39 := Tryd.func96.trans (congrArg some (by kernel_rfl))
  f40 := Tryd.func97.trans (congrArg some (by kernel_rfl))
  t0 := Tryd.underlying0
  a0 := Tryd.isAgg0
  z0 := Tryd.sizeOf0
  v0 := Tryd.zeroValue0
  i0 := by kernel_rfl
  t2 := Tryd.underlying2
  a2 := Tryd.isAgg2
  z2 := Tryd.sizeOf2
  v2 := Tryd.zeroValue2
  i2 := by kernel_rfl
  t3 := Tryd.underlying3
  a3 := Tryd.isAgg3
  z3 := Tryd.sizeOf3
  v3 := Tryd.zeroValue3
  i3 := by kernel_rfl
  t4 := Tryd.underlying4
  a4 := Tryd.isAgg4
  z4 := Tryd.sizeOf4
  v4 := Tryd.zeroValue4
  i4 := by kernel_rfl
  t5 := Tryd.underlying5
  a5 := Tryd.isAgg5
  z5 := Tryd.sizeOf5
  v5 := Tryd.zeroValue5
  i5 := by kernel_rfl
  t9 := Tryd.underlying9
  a9 := Tryd.isAgg9
  z9 := Tryd.sizeOf9
  v9 := Tryd.zeroValue9
  i9 := by kernel_rfl
  t20 := Tryd.underlying20
  a20 := Tryd.isAgg20
  z20 := Tryd.sizeOf20
  v20 := Tryd.zeroValue20
  i20 := by kernel_rfl
  t21 := Tryd.underlying21
  a21 := Tryd.isAgg21
  z21 := Tryd.sizeOf21
  v21 := Tryd.zeroValue21
  i21 := by kernel_rfl
  t22 := Tryd.underlying29
  a22 := Tryd.isAgg29
  z22 := Tryd.sizeOf29
  v22 := Tryd.zeroValue29
  i22 := by kernel_rfl
  t24 := Tryd.underlying72
  a24 := Tryd.isAgg72
  z24 := Tryd.sizeOf72
  v24 := Tryd.zeroValue72
  i24 := by kernel_rfl
  t25 := Tryd.underlying73
  a25 := Tryd.isAgg73
  z25 := Tryd.sizeOf73
  v25 := Tryd.zeroValue73
  i25 := by kernel_rfl
  t34 := Tryd.underlying109
  a34 := Tryd.isAgg109
  z34 := Tryd.sizeOf109
  v34 := Tryd.zeroValue109
  i34 := by kernel_rfl
  c34 := by kernel_rfl
  t36 := Tryd.underlying36
  a36 := Tryd.isAgg36
  z36 := Tryd.sizeOf36
  v36 := Tryd.zeroValue36
  i36 := by kernel_rfl
  t37 := Tryd.underlying55
  a37 := Tryd.isAgg55
  z37 := Tryd.sizeOf55
  v37 := Tryd.zeroValue55
  i37 := by kernel_rfl
  t39 := Tryd.underlying111
  a39 := Tryd.isAgg111
  z39 := Tryd.sizeOf111
  v39 := Tryd.zeroValue111
  i39 := by kernel_rfl
  t44 := Tryd.underlying128
  a44 := Tryd.isAgg128
  z44 := Tryd.sizeOf128
  v44 := Tryd.zeroValue128
  i44 := by kernel_rfl
  t47 := Tryd.underlying99
  a47 := Tryd.isAgg99
  z47 := Tryd.sizeOf99
  v47 := Tryd.zeroValue99
  i47 := by kernel_rfl
  t48 := Tryd.underlying132
  a48 := Tryd.isAgg132
  z48 := Tryd.sizeOf132
  v48 := Tryd.zeroValue132
  i48 := by kernel_rfl
  t50 := Tryd.underlying134
  a50 := Tryd.isAgg134
  z50 := Tryd.sizeOf134
  v50 := Tryd.zeroValue134
  i50 := by kernel_rfl
  t52 := Tryd.underlying89
  a52 := Tryd.isAgg89
  z52 := Tryd.sizeOf89
  v52 := Tryd.zeroValue89
  i52 := by kernel_rfl
  t55 := Tryd.underlying91
  a55 := Tryd.isAgg91
  z55 := Tryd.sizeOf91
  v55 := Tryd.zeroValue91
  i55 := by kernel_rfl
  t59 := Tryd.underlying102
  a59 := Tryd.isAgg102
  z59 := Tryd.sizeOf102
  v59 := Tryd.zeroValue102
  i59 := by kernel_rfl
  t60 := Tryd.underlying103
  a60 := Tryd.isAgg103
  z60 := Tryd.sizeOf103
  v60 := Tryd.zeroValue103
  i60 := by kernel_rfl
  t61 := Tryd.underlying104
  a61 := Tryd.isAgg104
  z61 := Tryd.sizeOf104
  t65 := Tryd.underlying130
  a65 := Tryd.isAgg130
  z65 := Tryd.sizeOf130
  v65 := Tryd.zeroValue130
  i65 := by kernel_rfl
  t66 := Tryd.underlying131
  a66 := Tryd.isAgg131
  z66 := Tryd.sizeOf131
  v66 := Tryd.zeroValue131
  i66 := by kernel_rfl
  t67 := Tryd.underlying88
  a67 := Tryd.isAgg88
  z67 := Tryd.sizeOf88
  v67 := Tryd.zeroValue88
  i67 := by kernel_rfl
  g0 := by kernel_rfl
  m0 := by kernel_rfl
  g1 := by kernel_rfl
  m1 := by kernel_rfl
  g2 := by kernel_rfl
  m2 := by kernel_rfl
  g3 := by kernel_rfl
  m3 := by kernel_rfl
  g4 := by kernel_rfl
  m4 := by kernel_rfl }
open Go.RowKit in
theorem sh_strconv_ParseUint_10_at8_ok (s : ByteArray) (hmax : s.size ≤ 9223372036854775806) (u : Nat) (h : Lib.parseUintB 8 s.data.toList = .ok u) (w : World) :
    Calls Tryd.prog 53 #[.string s, .int .i64 10, .int .i64 8] w fun e w' => e = .returned (.tuple #[.int .u64 u, .nilIface]) ∧ (w' = w ∨ w' = Lib.bytesWorld w 5 s) := Any.strconv_ParseUint_10_at8_ok sh_laysPu14 s hmax u h w
open Go.RowKit in
theorem sh_strconv_ParseUint_10_at8_syntax (s : ByteArray) (hlim : s.size ≤ 281474976710656) (h : Lib.parseUintB 8 s.data.toList = .«syntax») (ev : Value) (w : World) (hv : w.cell? ⟨1, 0, none⟩ = some ev) (hev : ev = .nilIface ∨ ∃ te pe, ev = .iface te pe) :
    Calls Tryd.prog 53 #[.string s, .int .i64 10, .int .i64 8] w fun e w' => ∃ N, e = .returned (.tuple #[.int .u64 0, .iface 111 (.pointer (some ⟨N, 0, none⟩))]) ∧ w.heap.size ≤ N ∧ w'.heap[N]? = some (.cells #[.string ⟨#[80, 97, 114, 115, 101, 85, 105, 110, 116]⟩, .string s, ev] 128 (0, 0)) ∧ Below w.heap.size w w' := Any.strconv_ParseUint_10_at8_syntax sh_laysPu14 s hlim h ev w hv hev
open Go.RowKit in
theorem sh_strconv_ParseUint_10_at8_range (s : ByteArray) (hlim : s.size ≤ 281474976710656) (h : Lib.parseUintB 8 s.data.toList = .range) (ev : Value) (w : World) (hv : w.cell? ⟨2, 0, none⟩ = some ev) (hev : ev = .nilIface ∨ ∃ te pe, ev = .iface te pe) :
    Calls Tryd.prog 53 #[.string s, .int .i64 10, .int .i64 8] w fun e w' => ∃ N, e = .returned (.tuple #[.int .u64 255, .iface 111 (.pointer (some ⟨N, 0, none⟩))]) ∧ w.heap.size ≤ N ∧ w'.heap[N]? = some (.cells #[.string ⟨#[80, 97, 114, 115, 101, 85, 105, 110, 116]⟩, .string s, ev] 128 (0, 0)) ∧ Below w.heap.size w w' := Any.strconv_ParseUint_10_at8_range sh_laysPu14 s hlim h ev w hv hev
end Go.Proofs.YtklgpmpmolphaaaDoor
/-
  Own text. strconv.FormatUint and FormatInt of base 16 for numbers below 65536.
-/
namespace Go.Proofs.YtklgpmpmolphaaaDoor
open Go.RowKit Go.Proofs
set_option maxRecDepth 100000
/-- What the library's own variables hold. -/
def Env (w : World) : Prop := Pow w ∧ (∃ m, w.cell? ⟨3, 0, none⟩ = some (.int .i64 m)) ∧ (∃ t p, w.cell? ⟨1, 0, none⟩ = some (.iface t p)) ∧ (∃ t p, w.cell? ⟨2, 0, none⟩ = some (.iface t p)) ∧ w.cell? ⟨5, 15, none⟩ = some (.int .u8 4)
theorem Env.kept {w w' : World} (h : Env w) (hb : Below w.heap.size w w') : Env w' := by
  obtain ⟨h1, ⟨m, h2⟩, ⟨t, p, h3⟩, ⟨t', p', h4⟩, h5⟩ := h
  exact ⟨h1.kept hb, ⟨m, (hb.cell (World.block_lt_of_cell? _ _ h2)).trans h2⟩, ⟨t, p, (hb.cell (World.block_lt_of_cell? _ _ h3)).trans h3⟩, ⟨t', p', (hb.cell (World.block_lt_of_cell? _ _ h4)).trans h4⟩, (hb.cell (World.block_lt_of_cell? _ _ h5)).trans h5⟩
def hexS (n : Nat) : ByteArray := ⟨(hexT n).toArray⟩
theorem hexS_ls (n : Nat) : lsT (hexS n) = hexT n := by unfold lsT hexS; rfl
theorem len65 : Tryd.prog.arrayLen 104 = 65 := by kernel_rfl
theorem sizeB65 (w : World) : (sizeOf (Tryd.prog.elem 104)).run Tryd.prog w = .ok 1 w := by kernel_rfl
theorem zero65 (w : World) : (zeroValue 104).run Tryd.prog w = .ok (.agg (SC 65 fun _ => Value.int .u8 0)) w := by kernel_rfl
def digS : ByteArray := ⟨#[48, 49, 50, 51, 52, 53, 54, 55, 56, 57, 97, 98, 99, 100, 101, 102, 103, 104, 105, 106, 107, 108, 109, 110, 111, 112, 113, 114, 115, 116, 117, 118, 119, 120, 121, 122]⟩
theorem dig_tab : ((List.range 16).all fun d => txt digS d == ((hexC d).toNat : Int)) = true := by decide +kernel
theorem dig_at {d : Nat} (h : d < 16) : txt digS d = ((hexC d).toNat : Int) := beq_iff_eq.1 (List.all_eq_true.1 dig_tab d (List.mem_range.2 h))
section
variable {a : Act} {o : Oper} {w : World} {x y : Operand} {t : TypeId}
theorem exec_ixsU (ho : o.op = .index 9 x y) {s : ByteArray} {j : Nat} (hx : a.eval x = .string s) (hy : a.eval y = .int .u64 (j : Int)) (hj : j < s.size) : (execOp a.eval o).run Tryd.prog w = .ok (.value (.int .u8 (txt s j))) w := by
  unfold execOp
  simp only [ho, hx, hy, Sem.run_bind]
  rw [run_index_string w 9 s .u64 (j : Int) Tryd.underlying9, dif_pos ⟨by omega, by omega⟩]
  simp only [Result.andThen_ok, Sem.run_pure, Int.toNat_natCast]
  rw [txt_get hj]
theorem exec_and15 (ho : o.op = .binOp .and 36 x y 36) {i q : Nat} (hx : a.eval x = .int .u64 (i : Int)) (hy : a.eval y = .int .u64 15) (hl : i < 18446744073709551616) (hq : i % 16 = q) : (execOp a.eval o).run Tryd.prog w = .ok (.value (.int .u64 (q : Int))) w := by
  subst hq
  refine exec_bin2 ho hx hy rfl ?_
  have e := bits_and_u64_nat i 15 hl (by decide)
  have e2 : i &&& 15 = i % 16 := Nat.and_two_pow_sub_one_eq_mod i 4
  rw [e2] at e
  have e3 : bits .and .u64 (i : Int) 15 = ((i % 16 : Nat) : Int) := e
  simp [go_sem, e3]
theorem exec_shrU4 (ho : o.op = .binOp .shr 29 x y t) {i q : Nat} (hx : a.eval x = .int .u64 (i : Int)) (hy : a.eval y = .int .u64 4) (hq : i / 16 = q) : (execOp a.eval o).run Tryd.prog w = .ok (.value (.int .u64 (q : Int))) w := by
  subst hq
  refine exec_bin2 ho hx hy rfl ?_
  simp [go_sem]
end
set_option maxHeartbeats 4000000 in
theorem tz64_run (w : World) (hc : w.cell? ⟨5, 15, none⟩ = some (.int .u8 4)) : Calls Tryd.prog 97 #[.int .u64 16] w fun e w' => e = .returned (.int .i64 4) ∧ w' = w := by
  have e1 : IntKind.u64.wrap (-16) = 18446744073709551600 := by rw [IntKind.wrap_u64]; decide
  have e2 : bits .and .u64 16 18446744073709551600 = 16 := by decide
  have e3 : IntKind.u64.wrap (16 * 285870213051353865) = 4573923408821661840 := by rw [IntKind.wrap_u64]; decide
  go_enter Tryd.func97, Tryd.ntmps97
  go_wp2_with fail
  go_ret
  exact ⟨rfl, rfl⟩
set_option maxHeartbeats 4000000 in
theorem tz_run (w : World) (hc : w.cell? ⟨5, 15, none⟩ = some (.int .u8 4)) : Calls Tryd.prog 80 #[.int .u64 16] w fun e w' => e = .returned (.int .i64 4) ∧ w' = w := by
  go_enter Tryd.func80, Tryd.ntmps80
  go_wp2_with (go_at_call 97; refine (tz64_run _ hc).mono ?_; rintro e w2 ⟨rfl, rfl⟩)
  go_ret
  exact ⟨rfl, rfl⟩
set_option maxHeartbeats 4000000 in
theorem pow2_run (w : World) : Calls Tryd.prog 79 #[.int .i64 16] w fun e w' => e = .returned (.bool true) ∧ w' = w := by
  have e2 : bits .and .i64 16 15 = 0 := by decide
  go_enter Tryd.func79, Tryd.ntmps79
  go_wp2_with fail
  go_ret
  exact ⟨rfl, rfl⟩
/-- The digits of a number, of 65 places: the last k of them. -/
def digF (n k j : Nat) : Int := if 65 - k ≤ j then ((hexC (n / 16 ^ (64 - j) % 16)).toNat : Int) else 0
theorem hexC_b (d : Nat) : 0 ≤ ((hexC d).toNat : Int) ∧ ((hexC d).toNat : Int) < 256 := by
  have := (hexC d).toNat_lt
  omega
theorem mkS_hex {n k : Nat} (hk : k ≤ 3) (h1 : n / 16 ^ k < 16) (h2 : k = 0 ∨ 16 ≤ n / 16 ^ (k - 1)) : mkS (k + 1) (fun j => ((hexC (n / 16 ^ (k - j) % 16)).toNat : Int)) = hexS n := by
  apply lsT_inj
  rw [hexS_ls]
  unfold hexT
  match k, hk with
  | 0, _ =>
    rw [if_pos (by simpa using h1)]
    have e : n % 16 = n := Nat.mod_eq_of_lt (by simpa using h1)
    simp [lsT, mkS, bytesL, e]
  | 1, _ =>
    have h3 : 16 ≤ n := by rcases h2 with e | e; cases e; simpa using e
    have h4 : n / 16 < 16 := by simpa using h1
    rw [if_neg (by omega), if_pos (by omega)]
    have e : n / 16 % 16 = n / 16 := Nat.mod_eq_of_lt h4
    simp [lsT, mkS, bytesL, e, List.range_succ]
  | 2, _ =>
    have h3 : 16 ≤ n / 16 := by rcases h2 with e | e; cases e; simpa using e
    have h4 : n / 256 < 16 := by simpa using h1
    rw [if_neg (by omega), if_neg (by omega), if_pos (by omega)]
    have e : n / 256 % 16 = n / 256 := Nat.mod_eq_of_lt h4
    simp [lsT, mkS, bytesL, e, List.range_succ]
  | 3, _ =>
    have h3 : 16 ≤ n / 256 := by rcases h2 with e | e; cases e; simpa using e
    have h4 : n / 4096 < 16 := by simpa using h1
    rw [if_neg (by omega), if_neg (by omega), if_neg (by omega)]
    have e : n / 4096 % 16 = n / 4096 := Nat.mod_eq_of_lt h4
    simp [lsT, mkS, bytesL, e, List.range_succ]
set_option maxHeartbeats 8000000 in
theorem fbits_run (n : Nat) (w : World) (hn : n < 65536) (hc : w.cell? ⟨5, 15, none⟩ = some (.int .u8 4)) : Calls Tryd.prog 66 #[.slice none 0 0, .int .u64 (n : Int), .int .i64 16, .bool false, .bool false] w fun e w' => e = .returned (.tuple #[.slice none 0 0, .string (hexS n)]) ∧ Below w.heap.size w w' := by
  go_enter Tryd.func66, Tryd.ntmps66
  go_wp2_with (refine wl_alO rfl rfl zero65 ?_; intro g w1 hg q1 hB1; refine Hid.out ?_)
  refine Hid.mk ?_
  have q1 : Hid (ArrAt w1 g .u8 104 65 (fun _ => 0)) := Hid.mk q1
  have hc1 := (hB1.cell (World.block_lt_of_cell? _ _ hc)).trans hc
  go_wp2_with (first | (go_at_call 79; refine (pow2_run _).mono ?_; rintro e w2 ⟨rfl, rfl⟩) | (go_at_call 80; refine (tz_run _ hc1).mono ?_; rintro e w2 ⟨rfl, rfl⟩))
  go_loopg [1, 13] 4 (fun gm s1 s13 z => ∃ k u : Nat, Hid (gm + k = 4) ∧ k ≤ 3 ∧ s1 = .int .u64 (u : Int) ∧ s13 = .int .i64 ((65 - k : Nat) : Int) ∧ Hid (u = n / 16 ^ k ∧ (k = 0 ∨ 16 ≤ n / 16 ^ (k - 1))) ∧ Hid (ArrAt z g .u8 104 65 (digF n k)) ∧ Below w.heap.size w z)
  case atStart => exact ⟨0, n, Hid.mk rfl, by omega, rfl, rfl, Hid.mk ⟨by simp, .inl rfl⟩, Hid.mk (q1.out.congr (fun i hi => by unfold digF; rw [if_neg (by omega)])), hB1⟩
  case round =>
    obtain ⟨k, u, HK, hk3, rfl, rfl, HU, HR, hB⟩ := hrel
    have hul : u < 65536 := by rw [HU.out.1]; exact Nat.lt_of_le_of_lt (Nat.div_le_self _ _) hn
    obtain ⟨p, hp⟩ : ∃ p, 65 - k = p := ⟨_, rfl⟩
    obtain ⟨p1, hp1⟩ : ∃ p1, p = 1 + p1 := ⟨p - 1, by omega⟩
    have hp65 : p1 < 65 := by omega
    have hpi : ((1 + p1 : Nat) : Int) = 1 + (p1 : Int) := by omega
    rw [hp, hp1]
    have hq := HR.out
    by_cases h16 : 16 ≤ u
    · have h16i : (16 : Int) ≤ (u : Int) := by omega
      obtain ⟨d, hd⟩ : ∃ d, u % 16 = d := ⟨_, rfl⟩
      obtain ⟨u2, hu2⟩ : ∃ u2, u / 16 = u2 := ⟨_, rfl⟩
      have hd16 : d < 16 := by omega
      have HD := Hid.mk (And.intro hd hu2)
      have hk2 : k < 3 := by
        rcases Nat.lt_or_ge k 3 with h | h
        · exact h
        · have e : k = 3 := by omega
          have := HU.out.1
          rw [e] at this
          have e2 : (16 : Nat) ^ 3 = 4096 := rfl
          omega
      have HX : Hid (∀ i, i < 65 → upd (digF n k) p1 ((hexC d).toNat : Int) i = digF n (k + 1) i) := Hid.mk (fun i hi => by
        unfold upd digF
        by_cases e : i = p1
        · rw [if_pos e, if_pos (by omega), ← hd, HU.out.1, show 64 - i = k by omega]
        · rw [if_neg e]
          by_cases e2 : 65 - k ≤ i
          · rw [if_pos e2, if_pos (by omega)]
          · rw [if_neg e2, if_neg (by omega)])
      have HU2 : Hid (u2 = n / 16 ^ (k + 1) ∧ (k + 1 = 0 ∨ 16 ≤ n / 16 ^ (k + 1 - 1))) := Hid.mk ⟨by
        rw [← hu2, HU.out.1, Nat.div_div_eq_div_mul, ← Nat.pow_succ], .inr (by rw [Nat.add_sub_cancel, ← HU.out.1]; exact h16)⟩
      clear hd hu2
      have HDS : Hid (d < digS.size) := Hid.mk (by show d < 36; omega)
      go_wp2_with (first | (refine wl_value rfl (exec_subW (i := 1 + p1) (m := 1) (q := p1) rfl (by rfl) (by rfl) rfl (by omega)) ?_) | (refine wl_value rfl (exec_and15 (i := u) rfl (by rfl) (by rfl) (by omega) HD.out.1) ?_) | (refine wl_value rfl (exec_ixsU (s := digS) (j := d) rfl (by rfl) (by rfl) HDS.out) ?_; simp only [dig_at hd16]) | (refine wl_value rfl (exec_idxA (i := p1) rfl Tryd.underlying104 len65 sizeB65 (by rfl) (by rfl) hp65) ?_) | (refine wl_st8A rfl rfl hq (by rfl) (by rfl) hp65 ?_; intro w2 q2 o2; refine Hid.out ?_))
      refine Hid.mk ?_
      have HY : Hid (ArrAt w2 g .u8 104 65 (digF n (k + 1))) := Hid.mk (q2.congr HX.out)
      have hB2 : Below w.heap.size w w2 := hB.trans (o2.below hg)
      clear q2 o2 hq HR hB
      go_wp2_with (refine wl_value rfl (exec_shrU4 (i := u) rfl (by rfl) (by rfl) HD.out.2) ?_)
      go_roundg (4 - (k + 1))
      case rel => exact ⟨k + 1, u2, Hid.mk (by omega), by omega, rfl, by congr 1; omega, HU2, HY, hB2⟩
      case measure => have := HK.out; omega
    · have h16i : ¬ (16 : Int) ≤ (u : Int) := by omega
      have hu16 : u < 16 := by omega
      have HX : Hid (∀ i, i < 65 → upd (digF n k) p1 ((hexC u).toNat : Int) i = digF n (k + 1) i) := Hid.mk (fun i hi => by
        unfold upd digF
        by_cases e : i = p1
        · rw [if_pos e, if_pos (by omega), show 64 - i = k by omega, ← HU.out.1, Nat.mod_eq_of_lt hu16]
        · rw [if_neg e]
          by_cases e2 : 65 - k ≤ i
          · rw [if_pos e2, if_pos (by omega)]
          · rw [if_neg e2, if_neg (by omega)])
      have HDS : Hid (u < digS.size) := Hid.mk (by show u < 36; omega)
      go_wp2_with (first | (refine wl_value rfl (exec_subW (i := 1 + p1) (m := 1) (q := p1) rfl (by rfl) (by rfl) rfl (by omega)) ?_) | (refine wl_value rfl (exec_ixsU (s := digS) (j := u) rfl (by rfl) (by rfl) HDS.out) ?_; simp only [dig_at hu16]) | (refine wl_value rfl (exec_idxA (i := p1) rfl Tryd.underlying104 len65 sizeB65 (by rfl) (by rfl) hp65) ?_) | (refine wl_st8A rfl rfl hq (by rfl) (by rfl) hp65 ?_; intro w2 q2 o2; refine Hid.out ?_))
      refine Hid.mk ?_
      have hB2 : Below w.heap.size w w2 := hB.trans (o2.below hg)
      have hY := q2.congr HX.out
      have hcv := str_cells g p1 (65 - p1) w2 (k + 1) (fun j => ((hexC (n / 16 ^ (k - j) % 16)).toNat : Int)) (fun j hj => by
        rw [hY.cell (p1 + j) (by omega)]
        unfold digF
        rw [if_pos (by omega), show 64 - (p1 + j) = k - j by omega]) (fun j _ => hexC_b _)
      rw [mkS_hex hk3 (by rw [← HU.out.1]; exact hu16) HU.out.2] at hcv
      have hsl := slArrL Tryd.underlying104 len65 sizeB65 g p1 w2 hp65
      have e8 : 65 - p1 = k + 1 := by omega
      rw [e8] at hsl hcv
      clear q2 o2 hq HR hB hY
      go_wp2_with (first | (refine wl_value rfl (exec_slL rfl (by rfl) (by rfl) hsl) ?_) | (refine wl_value rfl (exec_conv rfl (by rfl) hcv) ?_))
      exact bodyPost_ret (results_two rfl (by rfl) (by rfl)) rfl ⟨rfl, hB2⟩
theorem iFormatUint_run (n : Nat) (w : World) (hn : n < 65536) (hc : w.cell? ⟨5, 15, none⟩ = some (.int .u8 4)) : Calls Tryd.prog 59 #[.int .u64 (n : Int), .int .i64 16] w fun e w' => e = .returned (.string (hexS n)) ∧ Below w.heap.size w w' := by
  go_enter Tryd.func59, Tryd.ntmps59
  go_wp2_with (go_at_call 66; refine (fbits_run n _ hn hc).mono ?_; rintro e w2 ⟨rfl, hB⟩)
  go_ret
  exact ⟨rfl, hB⟩
theorem FormatUint_run (n : Nat) (w : World) (hn : n < 65536) (hE : Env w) : Calls Tryd.prog 47 #[.int .u64 (n : Int), .int .i64 16] w fun e w' => e = .returned (.string (hexS n)) ∧ Below w.heap.size w w' := by
  have hc := hE.2.2.2.2
  go_enter Tryd.func47, Tryd.ntmps47
  go_wp2_with (go_at_call 59; refine (iFormatUint_run n _ hn hc).mono ?_; rintro e w2 ⟨rfl, hB⟩)
  go_ret
  exact ⟨rfl, hB⟩
theorem iFormatInt_run (n : Nat) (w : World) (hn : n < 65536) (hc : w.cell? ⟨5, 15, none⟩ = some (.int .u8 4)) : Calls Tryd.prog 51 #[.int .i64 (n : Int), .int .i64 16] w fun e w' => e = .returned (.string (hexS n)) ∧ Below w.heap.size w w' := by
  have h0 : ¬ (n : Int) < 0 := by omega
  have e1 : IntKind.u64.wrap (n : Int) = (n : Int) := by rw [IntKind.wrap_u64]; omega
  go_enter Tryd.func51, Tryd.ntmps51
  go_wp2_with (go_at_call 66; refine (fbits_run n _ hn hc).mono ?_; rintro e w2 ⟨rfl, hB⟩)
  go_ret
  exact ⟨rfl, hB⟩
theorem FormatInt_run (n : Nat) (w : World) (hn : n < 65536) (hE : Env w) : Calls Tryd.prog 41 #[.int .i64 (n : Int), .int .i64 16] w fun e w' => e = .returned (.string (hexS n)) ∧ Below w.heap.size w w' := by
  have hc := hE.2.2.2.2
  go_enter Tryd.func41, Tryd.ntmps41
  go_wp2_with (go_at_call 51; refine (iFormatInt_run n _ hn hc).mono ?_; rintro e w2 ⟨rfl, hB⟩)
  go_ret
  exact ⟨rfl, hB⟩
end Go.Proofs.YtklgpmpmolphaaaDoor
/-
  Own text. The longest row of pairs that are 0: as the document finds it, and as the program does.
-/
namespace Go.Proofs.YtklgpmpmolphaaaDoor
open Go.RowKit Go.Proofs
set_option maxRecDepth 100000
/-- As the program goes: where the longest row begins, how long it is, how long the present one is. -/
def rowC (z : Nat → Bool) : Nat → Nat × Nat × Nat
  | 0 => (0, 0, 0)
  | k + 1 => if z k = true then (if (rowC z k).2.1 < (rowC z k).2.2 + 1 then (k - (rowC z k).2.2, (rowC z k).2.2 + 1, (rowC z k).2.2 + 1) else ((rowC z k).1, (rowC z k).2.1, (rowC z k).2.2 + 1)) else ((rowC z k).1, (rowC z k).2.1, 0)
/-- How many are 0 from i on, of n. -/
def runZ (z : Nat → Bool) : Nat → Nat → Nat
  | _, 0 => 0
  | i, n + 1 => if z i = true then runZ z (i + 1) n + 1 else 0
/-- As the document goes. -/
def rowD (z : Nat → Bool) : Nat → Nat × Nat
  | 0 => (0, 0)
  | k + 1 => if (rowD z k).2 < runZ z k (8 - k) ∧ 2 ≤ runZ z k (8 - k) then (k, runZ z k (8 - k)) else rowD z k
theorem rowC_congr {z z' : Nat → Bool} : ∀ k, (∀ i, i < k → z i = z' i) → rowC z k = rowC z' k
  | 0, _ => rfl
  | k + 1, h => by rw [rowC, rowC, rowC_congr k (fun i hi => h i (by omega)), h k (by omega)]
theorem runZ_congr {z z' : Nat → Bool} : ∀ n i, (∀ j, i ≤ j → j < i + n → z j = z' j) → runZ z i n = runZ z' i n
  | 0, _, _ => rfl
  | n + 1, i, h => by rw [runZ, runZ, runZ_congr n (i + 1) (fun j h1 h2 => h j (by omega) (by omega)), h i (by omega) (by omega)]
theorem rowD_congr {z z' : Nat → Bool} (h : ∀ i, i < 8 → z i = z' i) : ∀ k, k ≤ 8 → rowD z k = rowD z' k
  | 0, _ => rfl
  | k + 1, hk => by rw [rowD, rowD, rowD_congr h k (by omega), runZ_congr (8 - k) k (fun j h1 h2 => h j (by omega))]
def zOf (b0 b1 b2 b3 b4 b5 b6 b7 : Bool) (i : Nat) : Bool := [b0, b1, b2, b3, b4, b5, b6, b7].getD i false
def rowGood (z : Nat → Bool) : Bool := (if (rowC z 8).2.1 < 2 then decide ((rowD z 8).2 = 0) else decide ((rowD z 8).1 = (rowC z 8).1 ∧ (rowD z 8).2 = (rowC z 8).2.1)) && (decide ((rowD z 8).2 = 0) || (decide (2 ≤ (rowD z 8).2) && decide ((rowD z 8).1 + (rowD z 8).2 ≤ 8) && (List.range 8).all fun i => decide (i < (rowD z 8).1) || decide ((rowD z 8).1 + (rowD z 8).2 ≤ i) || z i)) && decide ((rowC z 8).1 + (rowC z 8).2.1 ≤ 8)
theorem row_tab : ∀ b0 b1 b2 b3 b4 b5 b6 b7 : Bool, rowGood (zOf b0 b1 b2 b3 b4 b5 b6 b7) = true := by decide +kernel
theorem zOf_at (z : Nat → Bool) : ∀ i, i < 8 → z i = zOf (z 0) (z 1) (z 2) (z 3) (z 4) (z 5) (z 6) (z 7) i
  | 0, _ => rfl
  | 1, _ => rfl
  | 2, _ => rfl
  | 3, _ => rfl
  | 4, _ => rfl
  | 5, _ => rfl
  | 6, _ => rfl
  | 7, _ => rfl
  | n + 8, h => by omega
theorem row_good (z : Nat → Bool) : rowGood z = true := by
  have h := row_tab (z 0) (z 1) (z 2) (z 3) (z 4) (z 5) (z 6) (z 7)
  have hz := zOf_at z
  generalize zOf (z 0) (z 1) (z 2) (z 3) (z 4) (z 5) (z 6) (z 7) = z' at h hz
  unfold rowGood at h ⊢
  rw [rowC_congr 8 hz, rowD_congr hz 8 (Nat.le_refl _)]
  have e : ((List.range 8).all fun i => decide (i < (rowD z' 8).1) || decide ((rowD z' 8).1 + (rowD z' 8).2 ≤ i) || z i) = ((List.range 8).all fun i => decide (i < (rowD z' 8).1) || decide ((rowD z' 8).1 + (rowD z' 8).2 ≤ i) || z' i) := by
    rw [Bool.eq_iff_iff, List.all_eq_true, List.all_eq_true]
    constructor
    · intro g i hi
      rw [← hz i (List.mem_range.1 hi)]
      exact g i hi
    · intro g i hi
      rw [hz i (List.mem_range.1 hi)]
      exact g i hi
  rw [e]
  exact h
/-- The row that a text leaves out: where it begins, how long it is (0: none). -/
def zP (pr : Nat → Nat) (i : Nat) : Bool := decide (pr i = 0)
def rowP (pr : Nat → Nat) : Nat × Nat := rowD (zP pr) 8
def textSix (pr : Nat → Nat) : List UInt8 := sixT pr (rowP pr).1 (rowP pr).2
theorem rowP_ok (pr : Nat → Nat) : (rowP pr).2 = 0 ∨ (2 ≤ (rowP pr).2 ∧ (rowP pr).1 + (rowP pr).2 ≤ 8 ∧ ∀ i, (rowP pr).1 ≤ i → i < (rowP pr).1 + (rowP pr).2 → pr i = 0) := by
  have h := row_good (zP pr)
  unfold rowGood at h
  rw [Bool.and_eq_true, Bool.and_eq_true, Bool.or_eq_true] at h
  rcases h.1.2 with e | e
  · exact .inl (of_decide_eq_true e)
  · rw [Bool.and_eq_true, Bool.and_eq_true] at e
    refine .inr ⟨of_decide_eq_true e.1.1, of_decide_eq_true e.1.2, fun i h1 h2 => ?_⟩
    have h8 : (rowP pr).1 + (rowP pr).2 ≤ 8 := of_decide_eq_true e.1.2
    have := List.all_eq_true.1 e.2 i (List.mem_range.2 (by omega))
    rw [Bool.or_eq_true, Bool.or_eq_true] at this
    rcases this with (q | q) | q
    · have : i < (rowP pr).1 := of_decide_eq_true q
      omega
    · have : (rowP pr).1 + (rowP pr).2 ≤ i := of_decide_eq_true q
      omega
    · exact of_decide_eq_true q
theorem rowC_few {pr : Nat → Nat} (h : (rowC (zP pr) 8).2.1 < 2) : textSix pr = joinC 58 ((prL pr 0 8).map hexT) := by
  have g := row_good (zP pr)
  unfold rowGood at g
  rw [Bool.and_eq_true, Bool.and_eq_true, if_pos h] at g
  have e : (rowP pr).2 = 0 := of_decide_eq_true g.1.1
  unfold textSix sixT
  rw [if_pos e]
theorem rowC_many {pr : Nat → Nat} (h : ¬ (rowC (zP pr) 8).2.1 < 2) : textSix pr = joinC 58 ((prL pr 0 (rowC (zP pr) 8).1).map hexT) ++ 58 :: 58 :: joinC 58 ((prL pr ((rowC (zP pr) 8).1 + (rowC (zP pr) 8).2.1) (8 - ((rowC (zP pr) 8).1 + (rowC (zP pr) 8).2.1))).map hexT) := by
  have g := row_good (zP pr)
  unfold rowGood at g
  rw [Bool.and_eq_true, Bool.and_eq_true, if_neg h] at g
  have e : (rowP pr).1 = (rowC (zP pr) 8).1 ∧ (rowP pr).2 = (rowC (zP pr) 8).2.1 := of_decide_eq_true g.1.1
  unfold textSix sixT
  rw [if_neg (by rw [e.2]; omega), e.1, e.2]
theorem rowC_le (z : Nat → Bool) : (rowC z 8).1 + (rowC z 8).2.1 ≤ 8 := by
  have g := row_good z
  unfold rowGood at g
  rw [Bool.and_eq_true] at g
  exact of_decide_eq_true g.2
theorem rowC_b (z : Nat → Bool) : ∀ k, (rowC z k).1 ≤ k ∧ (rowC z k).2.1 ≤ k ∧ (rowC z k).2.2 ≤ k
  | 0 => by simp [rowC]
  | k + 1 => by
    have ih := rowC_b z k
    rw [rowC]
    split
    · split
      · exact ⟨by show k - (rowC z k).2.2 ≤ k + 1; omega, by show (rowC z k).2.2 + 1 ≤ k + 1; omega, by show (rowC z k).2.2 + 1 ≤ k + 1; omega⟩
      · exact ⟨by show (rowC z k).1 ≤ k + 1; omega, by show (rowC z k).2.1 ≤ k + 1; omega, by show (rowC z k).2.2 + 1 ≤ k + 1; omega⟩
    · exact ⟨by show (rowC z k).1 ≤ k + 1; omega, by show (rowC z k).2.1 ≤ k + 1; omega, by show 0 ≤ k + 1; omega⟩
end Go.Proofs.YtklgpmpmolphaaaDoor
/-
  Own text. The program's own Text.
-/
namespace Go.Proofs.YtklgpmpmolphaaaDoor
open Go.RowKit Go.Proofs
set_option maxRecDepth 100000
theorem isS8 : IsSt 66 8 := ⟨_, Tryd.underlying66, rfl, by kernel_rfl⟩
theorem isS4 : IsSt 69 4 := ⟨_, Tryd.underlying69, rfl, by kernel_rfl⟩
theorem zeroS8 (w : World) : (zeroValue 66).run Tryd.prog w = .ok (.agg (SC 8 fun _ => Value.string ByteArray.empty)) w := by kernel_rfl
theorem zeroS4 (w : World) : (zeroValue 69).run Tryd.prog w = .ok (.agg (SC 4 fun _ => Value.string ByteArray.empty)) w := by kernel_rfl
theorem lenS8 : Tryd.prog.arrayLen 66 = 8 := by kernel_rfl
theorem lenS4 : Tryd.prog.arrayLen 69 = 4 := by kernel_rfl
theorem sizeS8 (w : World) : (sizeOf (Tryd.prog.elem 66)).run Tryd.prog w = .ok 1 w := by kernel_rfl
theorem sizeS4 (w : World) : (sizeOf (Tryd.prog.elem 69)).run Tryd.prog w = .ok 1 w := by kernel_rfl
theorem run_ix8 (V : Nat → ByteArray) (w : World) : ∀ j : Nat, j < 8 → (Instr.index 66 (.agg (SC 8 fun i => Value.string (V i))) (.int .i64 (j : Int))).run Tryd.prog w = .ok (.string (V j)) w
  | 0, _ => by kernel_rfl
  | 1, _ => by kernel_rfl
  | 2, _ => by kernel_rfl
  | 3, _ => by kernel_rfl
  | 4, _ => by kernel_rfl
  | 5, _ => by kernel_rfl
  | 6, _ => by kernel_rfl
  | 7, _ => by kernel_rfl
  | n + 8, h => by omega
def oneZ : ByteArray := ⟨#[48]⟩
theorem hex_zero {n : Nat} (hn : n < 65536) : hexS n = oneZ ↔ n = 0 := by
  constructor
  · intro h
    have h1 := hexT_pair hn
    have h2 : hexT n = [48] := by rw [← hexS_ls, h]; rfl
    rw [h2] at h1
    have h3 : pairV [48] = some 0 := by decide
    rw [h3] at h1
    injection h1 with h1
    exact h1.symm
  · rintro rfl
    rfl
section
variable {a : Act} {o : Oper} {w : World} {x y : Operand} {t : TypeId}
theorem exec_ix8 (ho : o.op = .index 66 x y) {V : Nat → ByteArray} {j : Nat} (hx : a.eval x = .agg (SC 8 fun i => Value.string (V i))) (hy : a.eval y = .int .i64 (j : Int)) (hj : j < 8) : (execOp a.eval o).run Tryd.prog w = .ok (.value (.string (V j))) w := by
  have h := run_ix8 V w j hj
  unfold execOp
  simp only [ho, hx, hy, Sem.run_bind, h, Result.andThen_ok, Sem.run_pure]
/-- A text is laid into a row of texts. -/
theorem wl_stS {ops : Array Oper} {rest : List Oper} {Q : Exit → Act → World → Prop} {g n i : Nat} {V : Nat → ByteArray} {s : ByteArray} {ty : TypeId} (ho : o.op = .store 9 x y) (hw : Region.wanted o (yielded ops a.tmps) = true) (hg : SAt w g ty n (fun j => Value.string (V j))) (hx : a.eval x = .pointer (some ⟨g, i, none⟩)) (hy : a.eval y = .string s) (hi : i < n)
    (h : ∀ w2, SAt w2 g ty n (fun j => Value.string (if j = i then s else V j)) → Only g w w2 → wpList Tryd.prog ops Q rest (a.put o.dst undef) w2) : wpList Tryd.prog ops Q (o :: rest) a w := by
  refine wl_act hw ?_
  have hc := SAt.at hg i hi
  have hf : w.frozen? ⟨g, i, none⟩ = false := frozen_of_row w g i _ _ hg
  have hr : (Instr.storeAt 9 (.pointer (some ⟨g, i, none⟩)) (.string s)).run Tryd.prog w = .ok () (w.setCell ⟨g, i, none⟩ (.string s)) := by simp [go_sem, hc, hf]
  unfold Oper.wp execOp
  simp only [ho, hx, hy, Sem.run_bind, hr, Result.andThen_ok, Sem.run_pure, Oper.upon]
  refine h _ ((hg.set i (.string s) hi).congr (fun j _ => ?_)) only_set
  by_cases e : j = i
  · rw [if_pos e, if_pos e]
  · rw [if_neg e, if_neg e]
end
set_option maxHeartbeats 4000000 in
theorem longestRow_run (pr : Nat → Nat) (w : World) (hp : ∀ i, i < 8 → pr i < 65536) : Calls Tryd.prog 48 #[.agg (SC 8 fun j => Value.string (hexS (pr j)))] w fun e w' => e = .returned (.tuple #[.int .i64 ((rowC (zP pr) 8).1 : Int), .int .i64 ((rowC (zP pr) 8).2.1 : Int)]) ∧ Below w.heap.size w w' := by
  have HZ : Hid (∀ i, i < 8 → decide (hexS (pr i) ≠ oneZ) = !(zP pr i)) := Hid.mk (fun i hi => by
    have := hex_zero (hp i hi)
    unfold zP
    by_cases e : pr i = 0
    · rw [decide_eq_true e, decide_eq_false (fun h => h (this.2 e))]; rfl
    · rw [decide_eq_false e, decide_eq_true (show hexS (pr i) ≠ oneZ from fun h => e (this.1 h))]; rfl)
  generalize zP pr = z at *
  clear hp
  go_enter Tryd.func48, Tryd.ntmps48
  go_wp2_with (refine wl_boxO rfl rfl isS8 (by rfl) ?_; intro g u1 hg g1 hB1; refine Hid.out ?_)
  refine Hid.mk ?_
  go_wp2_with (refine wl_value rfl (look_st rfl isS8 g1 (by rfl)) ?_)
  go_loopg [2, 3, 4, 8] 8 (fun gm s2 s3 s4 s8 y => ∃ k f m r : Nat, Hid (gm + k = 8) ∧ s8 = .int .i64 (k : Int) ∧ s2 = .int .i64 (f : Int) ∧ s3 = .int .i64 (m : Int) ∧ s4 = .int .i64 (r : Int) ∧ Hid (rowC z k = (f, m, r)) ∧ y = u1)
  case atStart => exact ⟨0, 0, 0, 0, Hid.mk rfl, rfl, rfl, rfl, rfl, Hid.mk rfl, rfl⟩
  case round =>
    obtain ⟨k, f, m, r, HK, rfl, rfl, rfl, rfl, HR, hz⟩ := hrel
    have hz2 := hz.symm
    subst hz2
    clear hz
    have hk8 : k ≤ 8 := by have := HK.out; omega
    have hb := rowC_b z k
    rw [HR.out] at hb
    have hb1 : f ≤ k := hb.1
    have hb2 : m ≤ k := hb.2.1
    have hb3 : r ≤ k := hb.2.2
    clear hb
    by_cases hk : k < 8
    · have hki : (k : Int) < 8 := by omega
      have HN := Hid.mk (HZ.out k hk)
      rcases Bool.eq_false_or_eq_true (z k) with hzk | hzk
      · rw [hzk] at HN
        by_cases hm : m < r + 1
        · have hmi : (m : Int) < (r : Int) + 1 := by omega
          obtain ⟨f2, hf2⟩ : ∃ f2, k - r = f2 := ⟨_, rfl⟩
          have hfi : (k : Int) + 1 - ((r : Int) + 1) = (f2 : Int) := by omega
          have HX : Hid (rowC z (k + 1) = (f2, r + 1, r + 1)) := Hid.mk (by rw [rowC, if_pos hzk, HR.out]; show (if m < r + 1 then _ else _) = _; rw [if_pos hm, hf2])
          clear hf2
          go_wp2_with (first | (refine wl_value rfl (exec_ix8 (V := fun j => hexS (pr j)) (j := k) rfl (by rfl) (by rfl) hk) ?_) | (refine wl_value rfl (exec_neSn (t := oneZ) rfl (by rfl) (by rfl) HN.out) ?_))
          go_roundg (8 - (k + 1))
          case rel => exact ⟨k + 1, f2, r + 1, r + 1, Hid.mk (by omega), by go_num, by congr 1, by go_num, by go_num, HX, rfl⟩
          case measure => have := HK.out; omega
        · have hmi : ¬ (m : Int) < (r : Int) + 1 := by omega
          have HX : Hid (rowC z (k + 1) = (f, m, r + 1)) := Hid.mk (by rw [rowC, if_pos hzk, HR.out]; show (if m < r + 1 then _ else _) = _; rw [if_neg hm])
          go_wp2_with (first | (refine wl_value rfl (exec_ix8 (V := fun j => hexS (pr j)) (j := k) rfl (by rfl) (by rfl) hk) ?_) | (refine wl_value rfl (exec_neSn (t := oneZ) rfl (by rfl) (by rfl) HN.out) ?_))
          go_roundg (8 - (k + 1))
          case rel => exact ⟨k + 1, f, m, r + 1, Hid.mk (by omega), by go_num, rfl, rfl, by go_num, HX, rfl⟩
          case measure => have := HK.out; omega
      · rw [hzk] at HN
        have HX : Hid (rowC z (k + 1) = (f, m, 0)) := Hid.mk (by rw [rowC, if_neg (by rw [hzk]; decide), HR.out])
        go_wp2_with (first | (refine wl_value rfl (exec_ix8 (V := fun j => hexS (pr j)) (j := k) rfl (by rfl) (by rfl) hk) ?_) | (refine wl_value rfl (exec_neSn (t := oneZ) rfl (by rfl) (by rfl) HN.out) ?_))
        go_roundg (8 - (k + 1))
        case rel => exact ⟨k + 1, f, m, 0, Hid.mk (by omega), by go_num, rfl, rfl, rfl, HX, rfl⟩
        case measure => have := HK.out; omega
    · have hk2 : k = 8 := by omega
      subst hk2
      go_wp2_with fail
      exact bodyPost_ret (results_two rfl (by rfl) (by rfl)) rfl ⟨by rw [HR.out]; rfl, hB1⟩
theorem joinC_len (c : UInt8) : ∀ L : List (List UInt8), (∀ p ∈ L, p.length ≤ 4) → (joinC c L).length ≤ 5 * L.length
  | [], _ => by simp [joinC]
  | [a], h => by
    have := h a (by simp)
    simp [joinC]
    omega
  | a :: b :: r, h => by
    have h1 := h a (by simp)
    have ih := joinC_len c (b :: r) (fun p hp => h p (by simp [hp]))
    rw [joinC]
    simp only [List.length_append, List.length_cons] at ih ⊢
    omega
theorem Join_run (g f n c : Nat) (V : Nat → List UInt8) (ch : UInt8) (w : World) (hc : ∀ j, j < n → w.cell? ⟨g, f + j, none⟩ = some (.string ⟨(V j).toArray⟩)) (hg : g < w.heap.size) (hn : n ≤ c) (hn8 : n ≤ 8) (hV : ∀ j, j < n → (V j).length ≤ 4) : Calls Tryd.prog 49 #[.slice (some ⟨g, f, none⟩) n c, .string ⟨#[ch]⟩] w fun e w' => e = .returned (.string ⟨(joinC ch ((List.range n).map V)).toArray⟩) ∧ Below w.heap.size w w' := by
  obtain ⟨xs, hx⟩ : ∃ xs : List ByteArray, xs = (List.range n).map fun j => ⟨(V j).toArray⟩ := ⟨_, rfl⟩
  have hl : xs.length = n := by rw [hx]; simp
  have hm : xs.map (·.data.toList) = (List.range n).map V := by rw [hx, List.map_map]; rfl
  have h := sh_strings_Join g f c xs ⟨#[ch]⟩ w (fun j x hj => by
    have hjn : j < n := by
      have := (List.getElem?_eq_some_iff.1 hj).1
      omega
    rw [hc j hjn]
    rw [hx, List.getElem?_map, List.getElem?_range hjn] at hj
    simp at hj
    rw [← hj]) hg (by omega) (by omega) (by
      rw [hm]
      show (Lib.join _ [ch]).length ≤ _
      rw [join_lib]
      have := joinC_len ch ((List.range n).map V) (fun p hp => by
        obtain ⟨j, hj, rfl⟩ := List.mem_map.1 hp
        exact hV j (List.mem_range.1 hj))
      rw [List.length_map, List.length_range] at this
      omega)
  rw [hl, hm] at h
  have e : Lib.join ((List.range n).map V) ([ch] : List UInt8) = joinC ch ((List.range n).map V) := join_lib ch _
  have e2 : Lib.join ((List.range n).map V) (⟨#[ch]⟩ : ByteArray).data.toList = joinC ch ((List.range n).map V) := e
  rw [e2] at h
  exact h
def fourS (b : Nat → Int) : ByteArray := ⟨(fourT (b 0).toNat (b 1).toNat (b 2).toNat (b 3).toNat).toArray⟩
theorem sl4s (g : Nat) (w : World) : (Instr.sliceAt 69 (.pointer (some ⟨g, 0, none⟩)) none none none).run Tryd.prog w = .ok (.slice (some ⟨g, 0, none⟩) 4 4) w := by simp [go_sem]
theorem sl8s (g : Nat) (w : World) : (Instr.sliceAt 66 (.pointer (some ⟨g, 0, none⟩)) none none none).run Tryd.prog w = .ok (.slice (some ⟨g, 0, none⟩) 8 8) w := by simp [go_sem]
theorem sl8h (g : Nat) (w : World) : ∀ n : Nat, n ≤ 8 → (Instr.sliceAt 66 (.pointer (some ⟨g, 0, none⟩)) none (some (.int .i64 (n : Int))) none).run Tryd.prog w = .ok (.slice (some ⟨g, 0, none⟩) n 8) w
  | 0, _ => by kernel_rfl
  | 1, _ => by kernel_rfl
  | 2, _ => by kernel_rfl
  | 3, _ => by kernel_rfl
  | 4, _ => by kernel_rfl
  | 5, _ => by kernel_rfl
  | 6, _ => by kernel_rfl
  | 7, _ => by kernel_rfl
  | 8, _ => by kernel_rfl
  | n + 9, h => by omega
theorem sl8e (g : Nat) (w : World) : (Instr.sliceAt 66 (.pointer (some ⟨g, 0, none⟩)) (some (.int .i64 8)) none none).run Tryd.prog w = .ok (.slice (some ⟨g, 0, none⟩) 0 0) w := by kernel_rfl
set_option maxHeartbeats 4000000 in
theorem text4_run (v : Bool) (b : Nat → Int) (w : World) (hb : Byts 16 b) (hE : Env w) : Calls Tryd.prog 38 #[.agg (SC 17 (adV v b))] w fun e w' => e = .returned (.string (fourS b)) ∧ Below w.heap.size w w' := by
  go_enter Tryd.func38, Tryd.ntmps38
  go_wp2_with (refine wl_boxO rfl rfl isAddr (by rfl) ?_; intro g u1 hg g1 hB1; refine Hid.out ?_)
  refine Hid.mk ?_
  go_wp2_with (refine wl_alO rfl rfl zeroS4 ?_; intro g3 u2 hg3 q3 hB2; refine Hid.out ?_)
  refine Hid.mk ?_
  have p1 := SAt.kept g1 hB2
  have hBa := hB1.trans (hB2.mono hB1.size)
  have hg3w : w.heap.size ≤ g3 := by have := hB1.size; omega
  have hne : g ≠ g3 := by have := SAt.lt g1; omega
  have HS : Hid (SAt u2 g 40 17 (adV v b) ∧ SAt u2 g3 69 4 (fun _ => Value.string ByteArray.empty) ∧ Env u2 ∧ Below w.heap.size w u2) := Hid.mk ⟨p1, q3, hE.kept hBa, hBa⟩
  clear g1 q3 p1 hB1 hB2 hBa hg hg3
  go_wp2_with fail
  go_loopg [5] 4 (fun gm s5 z => ∃ k : Nat, Hid (gm + k = 4) ∧ s5 = .int .i64 (k : Int) ∧ Hid (SAt z g 40 17 (adV v b) ∧ SAt z g3 69 4 (fun j => Value.string (if j < k then decS (b j).toNat else ByteArray.empty)) ∧ Env z ∧ Below w.heap.size w z))
  case atStart => exact ⟨0, Hid.mk rfl, rfl, Hid.mk ⟨HS.out.1, HS.out.2.1.congr (fun j _ => by rw [if_neg (by omega)]), HS.out.2.2⟩⟩
  case round =>
    obtain ⟨k, HK, rfl, HR⟩ := hrel
    clear HS
    have hk4 : k ≤ 4 := by have := HK.out; omega
    obtain ⟨wI, hwI⟩ : ∃ x, x = wr := ⟨_, rfl⟩
    rw [← hwI] at HR ⊢
    clear hwI
    by_cases hk : k < 4
    · have hki : (k : Int) < 4 := by omega
      have hbk := hb k (by omega)
      obtain ⟨n, hn⟩ : ∃ n : Nat, b k = (n : Int) := ⟨(b k).toNat, by omega⟩
      have hn256 : n < 256 := by omega
      have cb := ad_b HR.out.1 k (by omega)
      rw [hn] at cb
      have HN := Hid.mk hn
      clear hn hbk
      go_wp2_with (first | (refine wl_value rfl (exec_fadW1 rfl (by rfl)) ?_) | (refine wl_value rfl (exec_ixW16 (k := k) rfl (by rfl) (by rfl) (by omega)) ?_) | (refine wl_value rfl (exec_ld rfl (by rfl) (ldW8 cb)) ?_) | (refine wl_value rfl (exec_cvW (m := (n : Int)) rfl (by rfl) (by omega) (by omega)) ?_) | (go_at_call 39; refine (Itoa_run n _ hn256 HR.out.2.2.1.1).mono ?_; rintro e w2 ⟨rfl, hB2⟩; refine Hid.out ?_))
      refine Hid.mk ?_
      have q2 := SAt.kept HR.out.2.1 hB2
      have p2 := SAt.kept HR.out.1 hB2
      go_wp2_with (first | (refine wl_value rfl (exec_idxA (i := k) rfl Tryd.underlying69 lenS4 sizeS4 (by rfl) (by rfl) hk) ?_) | (refine wl_stS rfl rfl q2 (by rfl) (by rfl) hk ?_; intro w3 q4 o3; refine Hid.out ?_))
      refine Hid.mk ?_
      have hB3 : Below w.heap.size w w3 := (HR.out.2.2.2.trans (hB2.mono HR.out.2.2.2.size)).trans (o3.below hg3w)
      have HX : Hid (SAt w3 g 40 17 (adV v b) ∧ SAt w3 g3 69 4 (fun j => Value.string (if j < k + 1 then decS (b j).toNat else ByteArray.empty)) ∧ Env w3 ∧ Below w.heap.size w w3) := Hid.mk ⟨p2.only o3 hne, q4.congr (fun j _ => by
        congr 1
        by_cases e : j = k
        · rw [if_pos e, if_pos (by omega), e, HN.out, Int.toNat_natCast]
        · rw [if_neg e]
          by_cases e2 : j < k
          · rw [if_pos e2, if_pos (by omega)]
          · rw [if_neg e2, if_neg (by omega)]), hE.kept hB3, hB3⟩
      clear q2 p2 q4 o3 hB2 HR
      go_wp2_with fail
      go_roundg (4 - (k + 1))
      case rel => exact ⟨k + 1, Hid.mk (by omega), by go_num, HX⟩
      case measure => have := HK.out; omega
    · have hk2 : k = 4 := by omega
      subst hk2
      have hJ := Join_run g3 0 4 4 (fun j => decT (b j).toNat) 46 wI (fun j hj => by
        rw [Nat.zero_add, SAt.at HR.out.2.1 j hj, if_pos hj]
        rfl) (SAt.lt HR.out.2.1) (Nat.le_refl _) (by omega) (fun j hj => by
          have h1 := hb j (by omega)
          have := (dec_b (n := (b j).toNat) (by omega)).2.2
          omega)
      have HJ := Hid.mk hJ
      clear hJ
      go_wp2_with (first | (refine wl_value rfl (exec_sl rfl (by rfl) (sl4s g3 _)) ?_) | (go_at_call 49; refine HJ.out.mono ?_; rintro e w2 ⟨rfl, hB2⟩; refine Hid.out ?_))
      refine Hid.mk ?_
      go_wp2_with fail
      go_ret
      exact ⟨rfl, HR.out.2.2.2.trans (hB2.mono HR.out.2.2.2.size)⟩
def prF (b : Nat → Int) (i : Nat) : Nat := (b (2 * i)).toNat * 256 + (b (2 * i + 1)).toNat
theorem prF_lt {b : Nat → Int} (hb : Byts 16 b) {i : Nat} (hi : i < 8) : prF b i < 65536 := by
  have h1 := hb (2 * i) (by omega)
  have h2 := hb (2 * i + 1) (by omega)
  unfold prF
  omega
def sixS (pr : Nat → Nat) : ByteArray := ⟨(textSix pr).toArray⟩
def ddS : ByteArray := ⟨#[58, 58]⟩
theorem enterW_FU (args : Array Value) (w : World) : (callFunc 47 args).run Tryd.prog w = .ok (.enter 47 args) w := by kernel_rfl
theorem enterW_Jo (args : Array Value) (w : World) : (callFunc 49 args).run Tryd.prog w = .ok (.enter 49 args) w := by kernel_rfl
theorem lsT_app (A B : ByteArray) : lsT (A ++ B) = lsT A ++ lsT B := by
  unfold lsT
  simp
theorem prL_range (pr : Nat → Nat) (a n : Nat) : (prL pr a n).map hexT = (List.range n).map fun j => hexT (pr (a + j)) := by
  unfold prL
  rw [List.range'_eq_map_range, List.map_map, List.map_map]
  rfl
set_option maxHeartbeats 8000000 in
theorem text6_run (v : Bool) (b : Nat → Int) (w : World) (hb : Byts 16 b) (hE : Env w) : Calls Tryd.prog 37 #[.agg (SC 17 (adV v b))] w fun e w' => e = .returned (.string (sixS (prF b))) ∧ Below w.heap.size w w' := by
  have HPL : Hid (∀ i, i < 8 → prF b i < 65536) := Hid.mk (fun i hi => prF_lt hb hi)
  obtain ⟨pr, hpr⟩ : ∃ pr, prF b = pr := ⟨_, rfl⟩
  rw [hpr] at HPL ⊢
  have HPP := Hid.mk hpr
  clear hpr
  go_enter Tryd.func37, Tryd.ntmps37
  go_wp2_with (refine wl_boxO rfl rfl isAddr (by rfl) ?_; intro g u1 hg g1 hB1; refine Hid.out ?_)
  refine Hid.mk ?_
  go_wp2_with (refine wl_alO rfl rfl zeroS8 ?_; intro g3 u2 hg3 q3 hB2; refine Hid.out ?_)
  refine Hid.mk ?_
  have p1 := SAt.kept g1 hB2
  have hBa := hB1.trans (hB2.mono hB1.size)
  have hg3w : w.heap.size ≤ g3 := by have := hB1.size; omega
  have hne : g ≠ g3 := by have := SAt.lt g1; omega
  have HS : Hid (SAt u2 g 40 17 (adV v b) ∧ SAt u2 g3 66 8 (fun _ => Value.string ByteArray.empty) ∧ Env u2 ∧ Below w.heap.size w u2) := Hid.mk ⟨p1, q3, hE.kept hBa, hBa⟩
  clear g1 q3 p1 hB1 hB2 hBa hg hg3
  go_wp2_with fail
  go_loopg [7] 8 (fun gm s7 z => ∃ k : Nat, Hid (gm + k = 8) ∧ s7 = .int .i64 (k : Int) ∧ Hid (SAt z g 40 17 (adV v b) ∧ SAt z g3 66 8 (fun j => Value.string (if j < k then hexS (pr j) else ByteArray.empty)) ∧ Env z ∧ Below w.heap.size w z))
  case atStart => exact ⟨0, Hid.mk rfl, rfl, Hid.mk ⟨HS.out.1, HS.out.2.1.congr (fun j _ => by rw [if_neg (by omega)]), HS.out.2.2⟩⟩
  case round =>
    obtain ⟨k, HK, rfl, HR⟩ := hrel
    clear HS
    have hk8 : k ≤ 8 := by have := HK.out; omega
    obtain ⟨wI, hwI⟩ : ∃ x, x = wr := ⟨_, rfl⟩
    rw [← hwI] at HR ⊢
    clear hwI
    by_cases hk : k < 8
    · have hki : (k : Int) < 8 := by omega
      have h1 := hb (2 * k) (by omega)
      have h2 := hb (2 * k + 1) (by omega)
      obtain ⟨X, hXe⟩ : ∃ X : Nat, b (2 * k) = (X : Int) := ⟨(b (2 * k)).toNat, by omega⟩
      obtain ⟨Y, hYe⟩ : ∃ Y : Nat, b (2 * k + 1) = (Y : Int) := ⟨(b (2 * k + 1)).toNat, by omega⟩
      have hX : X < 256 := by omega
      have hY : Y < 256 := by omega
      have HPR : Hid (pr k = X * 256 + Y) := Hid.mk (by rw [← HPP.out]; unfold prF; rw [hXe, hYe]; rfl)
      have HCX : Hid (∀ ww, Below wI.heap.size wI ww → ww.cell? ⟨g, 1 + (2 * k), none⟩ = some (.int .u8 (X : Int))) := Hid.mk (fun ww hh => by
        have := ad_b (SAt.kept HR.out.1 hh) (2 * k) (by omega)
        rw [hXe] at this
        exact this)
      have HCY : Hid (∀ ww, Below wI.heap.size wI ww → ww.cell? ⟨g, 1 + (2 * k + 1), none⟩ = some (.int .u8 (Y : Int))) := Hid.mk (fun ww hh => by
        have := ad_b (SAt.kept HR.out.1 hh) (2 * k + 1) (by omega)
        rw [hYe] at this
        exact this)
      have HEW : Hid (∀ ww, Below wI.heap.size wI ww → Env ww) := Hid.mk (fun ww hh => HR.out.2.2.1.kept hh)
      clear h1 h2 hXe hYe
      go_upto_region 5 with fail
      refine wp_region_cut 17 rfl (by kernel_rfl) (any_steps (Below wI.heap.size wI) (fun v v' => Below v.heap.size v v') (fun iq vq v0 => match iq with | 0 => vq = .int .i64 (k : Int) | 1 => vq = .int .i64 (k : Int) | 2 => vq = .int .i64 ((2 * k : Nat) : Int) | 3 => vq = .pointer (some ⟨g, 1, none⟩) | 4 => vq = .pointer (some ⟨g, 1 + (2 * k), none⟩) | 5 => vq = .int .u8 (X : Int) | 6 => vq = .int .u64 (X : Int) | 7 => vq = .int .u64 ((X * 256 : Nat) : Int) | 8 => vq = .int .i64 (k : Int) | 9 => vq = .int .i64 ((2 * k : Nat) : Int) | 10 => vq = .int .i64 ((2 * k + 1 : Nat) : Int) | 11 => vq = .pointer (some ⟨g, 1, none⟩) | 12 => vq = .pointer (some ⟨g, 1 + (2 * k + 1), none⟩) | 13 => vq = .int .u8 (Y : Int) | 14 => vq = .int .u64 (Y : Int) | 15 => vq = .int .u64 ((X * 256 + Y : Nat) : Int) | 16 => vq = .string (hexS (X * 256 + Y)) | _ => True)
          [10, 11, 12, 13, 14, 15, 16, 17, 18, 19, 20, 21, 22, 23, 24, 25, 26]
          [(4, .int .i64 (k : Int)), (1, .pointer (some ⟨g, 0, none⟩)), (3, .pointer (some ⟨g3, 0, none⟩))]
          [[], [], [1], [], [3, 2], [4], [5], [6], [], [8], [9], [], [11, 10], [12], [13], [7, 14], [15]]
          (by kernel_rfl) ⟨rfl, rfl, rfl, trivial⟩ (Below.drew (Below.refl _ _)) (fun v v' h hb => h.trans (hb.mono h.size)) ?_
          ⟨
            (fun Q a1 ww hS fr kn => ⟨trivial, fun K hK => wp_value (exec_move rfl fr.1) (hK _ _ rfl (Below.refl _ _))⟩),
            (fun Q a1 ww hS fr kn => ⟨trivial, fun K hK => wp_value (exec_move rfl fr.1) (hK _ _ rfl (Below.refl _ _))⟩),
            (fun Q a1 ww hS fr kn => ⟨trivial, fun K hK => wp_value (exec_mulW (i := 2) (m := k) rfl rfl kn.1 rfl (by omega)) (hK _ _ rfl (Below.refl _ _))⟩),
            (fun Q a1 ww hS fr kn => ⟨trivial, fun K hK => wp_value (exec_fadW1 rfl fr.2.1) (hK _ _ rfl (Below.refl _ _))⟩),
            (fun Q a1 ww hS fr kn => ⟨trivial, fun K hK => wp_value (exec_ixW16 (k := 2 * k) rfl kn.1 kn.2.1 (by omega)) (hK _ _ rfl (Below.refl _ _))⟩),
            (fun Q a1 ww hS fr kn => ⟨trivial, fun K hK => wp_value (exec_ld rfl kn.1 (ldW8 (HCX.out ww hS))) (hK _ _ rfl (Below.refl _ _))⟩),
            (fun Q a1 ww hS fr kn => ⟨trivial, fun K hK => wp_value (exec_cv8U (m := X) rfl kn.1 hX) (hK _ _ rfl (Below.refl _ _))⟩),
            (fun Q a1 ww hS fr kn => ⟨trivial, fun K hK => wp_value (exec_shl8U (i := X) rfl kn.1 rfl rfl (by omega)) (hK _ _ rfl (Below.refl _ _))⟩),
            (fun Q a1 ww hS fr kn => ⟨trivial, fun K hK => wp_value (exec_move rfl fr.1) (hK _ _ rfl (Below.refl _ _))⟩),
            (fun Q a1 ww hS fr kn => ⟨trivial, fun K hK => wp_value (exec_mulW (i := 2) (m := k) rfl rfl kn.1 rfl (by omega)) (hK _ _ rfl (Below.refl _ _))⟩),
            (fun Q a1 ww hS fr kn => ⟨trivial, fun K hK => wp_value (exec_addW (i := 2 * k) (m := 1) rfl kn.1 rfl rfl (by omega)) (hK _ _ rfl (Below.refl _ _))⟩),
            (fun Q a1 ww hS fr kn => ⟨trivial, fun K hK => wp_value (exec_fadW1 rfl fr.2.1) (hK _ _ rfl (Below.refl _ _))⟩),
            (fun Q a1 ww hS fr kn => ⟨trivial, fun K hK => wp_value (exec_ixW16 (k := 2 * k + 1) rfl kn.1 kn.2.1 (by omega)) (hK _ _ rfl (Below.refl _ _))⟩),
            (fun Q a1 ww hS fr kn => ⟨trivial, fun K hK => wp_value (exec_ld rfl kn.1 (ldW8 (HCY.out ww hS))) (hK _ _ rfl (Below.refl _ _))⟩),
            (fun Q a1 ww hS fr kn => ⟨trivial, fun K hK => wp_value (exec_cv8U (m := Y) rfl kn.1 hY) (hK _ _ rfl (Below.refl _ _))⟩),
            (fun Q a1 ww hS fr kn => ⟨trivial, fun K hK => wp_value (exec_orU8 (i := X) (c := Y) rfl kn.1 kn.2.1 hY rfl (by omega)) (hK _ _ rfl (Below.refl _ _))⟩),
            (fun Q a1 ww hS fr kn => ⟨trivial, fun K hK => stepc enterW_FU rfl (args2 kn.1 rfl) (FormatUint_run (X * 256 + Y) ww (by omega) (HEW.out ww hS)) (fun w' hb => hK _ _ rfl hb)⟩),
            trivial⟩ ?_)
      · intro iq vq u' u'' hh hb
        match iq with
        | 0 | 1 | 2 | 3 | 4 | 5 | 6 | 7 | 8 | 9 | 10 | 11 | 12 | 13 | 14 | 15 | 16 => exact hh

        | n + 17 => trivial
      intro vs w7 hS7 hk7
      have e10 : vs 10 = .int .i64 (k : Int) := hk7 0 (by decide)
      have e26 : vs 26 = .string (hexS (X * 256 + Y)) := hk7 16 (by decide)
      have q2 := SAt.kept HR.out.2.1 hS7
      have p2 := SAt.kept HR.out.1 hS7
      have hB2 := hS7
      clear hk7 hS7
      show wpList Tryd.prog _ _ (_ :: _ :: []) _ _
      simp only [putAll, Act.put, List.setIfInBounds_toArray, List.set_cons_zero, List.set_cons_succ, e10, e26]
      clear e10 e26
      go_upto_region 6 with (first | (refine wl_value rfl (exec_idxA (i := k) rfl Tryd.underlying66 lenS8 sizeS8 (by rfl) (by rfl) hk) ?_) | (refine wl_stS rfl rfl q2 (by rfl) (by rfl) hk ?_; intro w3 q4 o3; refine Hid.out ?_))
      refine Hid.mk ?_
      have hB3 : Below w.heap.size w w3 := (HR.out.2.2.2.trans (hB2.mono HR.out.2.2.2.size)).trans (o3.below hg3w)
      have HX : Hid (SAt w3 g 40 17 (adV v b) ∧ SAt w3 g3 66 8 (fun j => Value.string (if j < k + 1 then hexS (pr j) else ByteArray.empty)) ∧ Env w3 ∧ Below w.heap.size w w3) := Hid.mk ⟨p2.only o3 hne, q4.congr (fun j _ => by
        congr 1
        by_cases e : j = k
        · rw [if_pos e, if_pos (by omega), e, HPR.out]
        · rw [if_neg e]
          by_cases e2 : j < k
          · rw [if_pos e2, if_pos (by omega)]
          · rw [if_neg e2, if_neg (by omega)]), hE.kept hB3, hB3⟩
      clear q2 p2 q4 o3 hB2 HR HCX HCY HEW
      go_wp2_with fail
      go_roundg (8 - (k + 1))
      case rel => exact ⟨k + 1, Hid.mk (by omega), by go_num, HX⟩
      case measure => have := HK.out; omega
    · have hk2 : k = 8 := by omega
      subst hk2
      have q8 : SAt wI g3 66 8 (fun j => Value.string (hexS (pr j))) := HR.out.2.1.congr (fun j hj => by rw [if_pos hj])
      have hle := rowC_le (zP pr)
      have HFW := Hid.mk (fun h => rowC_few (pr := pr) h)
      have HMN := Hid.mk (fun h => rowC_many (pr := pr) h)
      have hLR := Hid.mk (longestRow_run pr wI HPL.out)
      obtain ⟨f, hf⟩ : ∃ f, (rowC (zP pr) 8).1 = f := ⟨_, rfl⟩
      obtain ⟨m, hm⟩ : ∃ m, (rowC (zP pr) 8).2.1 = m := ⟨_, rfl⟩
      rw [hf, hm] at hle hLR HMN
      rw [hm] at HFW
      clear hf hm
      go_wp2_with (first | (refine wl_value rfl (look_st rfl isS8 q8 (by rfl)) ?_) | (go_at_call 48; refine hLR.out.mono ?_; rintro e w2 ⟨rfl, hB2⟩; refine Hid.out ?_))
      refine Hid.mk ?_
      have q9 := SAt.kept q8 hB2
      have hBw : Below w.heap.size w w2 := HR.out.2.2.2.trans (hB2.mono HR.out.2.2.2.size)
      have HV : Hid (∀ j, j < 8 → (hexT (pr j)).length ≤ 4) := Hid.mk (fun j _ => (hexT_len (pr j)).2)
      by_cases h2 : m < 2
      · have h2i : (m : Int) < 2 := by omega
        have hJ := Join_run g3 0 8 8 (fun j => hexT (pr j)) 58 w2 (fun j hj => by
          rw [Nat.zero_add, SAt.at q9 j hj]
          rfl) (SAt.lt q9) (Nat.le_refl _) (by omega) HV.out
        have HJ := Hid.mk hJ
        have HE : Hid (joinC 58 ((List.range 8).map fun j => hexT (pr j)) = textSix pr) := Hid.mk (by
          rw [HFW.out h2, prL_range]
          simp)
        rw [HE.out] at HJ
        clear hJ
        go_wp2_with (first | (refine wl_value rfl (exec_sl rfl (by rfl) (sl8s g3 _)) ?_) | (go_at_call 49; refine HJ.out.mono ?_; rintro e w3 ⟨rfl, hB3⟩; refine Hid.out ?_))
        refine Hid.mk ?_
        go_wp2_with fail
        go_ret
        exact ⟨rfl, hBw.trans (hB3.mono hBw.size)⟩
      · have h2i : ¬ (m : Int) < 2 := by omega
        obtain ⟨o2, n2, c2, hsl2, hon, hnc⟩ : ∃ o2 n2 c2, (∀ ww, (Instr.sliceAt 66 (.pointer (some ⟨g3, 0, none⟩)) (some (.int .i64 ((f + m : Nat) : Int))) none none).run Tryd.prog ww = .ok (.slice (some ⟨g3, o2, none⟩) n2 c2) ww) ∧ n2 = 8 - (f + m) ∧ (n2 ≤ c2 ∧ (f + m < 8 → o2 = f + m) ∧ o2 + n2 ≤ 8) := by
          rcases Nat.lt_or_ge (f + m) 8 with h8 | h8
          · exact ⟨f + m, 8 - (f + m), 8 - (f + m), fun ww => slArrL Tryd.underlying66 lenS8 sizeS8 g3 (f + m) ww h8, rfl, Nat.le_refl _, fun _ => rfl, by omega⟩
          · have e : f + m = 8 := by omega
            exact ⟨0, 0, 0, fun ww => by rw [e]; exact sl8e g3 ww, by omega, Nat.le_refl _, fun h => by omega, by omega⟩
        have HSL := Hid.mk hsl2
        have HE : Hid (joinC 58 ((List.range f).map fun j => hexT (pr j)) ++ 58 :: 58 :: joinC 58 ((List.range n2).map fun j => hexT (pr (o2 + j))) = textSix pr) := Hid.mk (by
          rw [HMN.out h2, prL_range, prL_range, ← hon]
          rcases Nat.lt_or_ge (f + m) 8 with h8 | h8
          · rw [hnc.2.1 h8]; simp
          · have : n2 = 0 := by omega
            rw [this]; simp)
        have HJ1 : Hid (∀ ww, Below w2.heap.size w2 ww → Calls Tryd.prog 49 #[.slice (some ⟨g3, 0, none⟩) f 8, .string ⟨#[58]⟩] ww fun e w' => e = .returned (.string ⟨(joinC 58 ((List.range f).map fun j => hexT (pr j))).toArray⟩) ∧ Below ww.heap.size ww w') := Hid.mk (fun ww hh => by
          have qq := SAt.kept q9 hh
          exact Join_run g3 0 f 8 (fun j => hexT (pr j)) 58 ww (fun j hj => by
            rw [Nat.zero_add, SAt.at qq j (by omega)]
            rfl) (SAt.lt qq) (by omega) (by omega) (fun j hj => HV.out j (by omega)))
        have HJ2 : Hid (∀ ww, Below w2.heap.size w2 ww → Calls Tryd.prog 49 #[.slice (some ⟨g3, o2, none⟩) n2 c2, .string ⟨#[58]⟩] ww fun e w' => e = .returned (.string ⟨(joinC 58 ((List.range n2).map fun j => hexT (pr (o2 + j)))).toArray⟩) ∧ Below ww.heap.size ww w') := Hid.mk (fun ww hh => by
          have qq := SAt.kept q9 hh
          exact Join_run g3 o2 n2 c2 (fun j => hexT (pr (o2 + j))) 58 ww (fun j hj => by
            rw [SAt.at qq (o2 + j) (by omega)]
            rfl) (SAt.lt qq) hnc.1 (by omega) (fun j hj => HV.out (o2 + j) (by omega)))
        have hf8 : f ≤ 8 := by omega
        have HC : Hid ((joinC 58 ((List.range f).map fun j => hexT (pr j))).length ≤ 40 ∧ (joinC 58 ((List.range n2).map fun j => hexT (pr (o2 + j)))).length ≤ 40) := Hid.mk ⟨by
          have := joinC_len 58 ((List.range f).map fun j => hexT (pr j)) (fun p hp => by
            obtain ⟨j, hj, rfl⟩ := List.mem_map.1 hp
            exact (hexT_len _).2)
          rw [List.length_map, List.length_range] at this
          omega, by
          have := joinC_len 58 ((List.range n2).map fun j => hexT (pr (o2 + j))) (fun p hp => by
            obtain ⟨j, hj, rfl⟩ := List.mem_map.1 hp
            exact (hexT_len _).2)
          rw [List.length_map, List.length_range] at this
          omega⟩
        have HC1 : Hid ((⟨(joinC 58 ((List.range f).map fun j => hexT (pr j))).toArray⟩ : ByteArray).size + ddS.size ≤ 9223372036854775807) := Hid.mk (by
          have h1 : (⟨(joinC 58 ((List.range f).map fun j => hexT (pr j))).toArray⟩ : ByteArray).size = (joinC 58 ((List.range f).map fun j => hexT (pr j))).length := rfl
          have h2 : ddS.size = 2 := rfl
          rw [h1, h2]
          have := HC.out.1
          omega)
        have HC2 : Hid ((⟨(joinC 58 ((List.range f).map fun j => hexT (pr j))).toArray⟩ ++ ddS : ByteArray).size + (⟨(joinC 58 ((List.range n2).map fun j => hexT (pr (o2 + j)))).toArray⟩ : ByteArray).size ≤ 9223372036854775807) := Hid.mk (by
          have h1 : (⟨(joinC 58 ((List.range f).map fun j => hexT (pr j))).toArray⟩ : ByteArray).size = (joinC 58 ((List.range f).map fun j => hexT (pr j))).length := rfl
          have h2 : ddS.size = 2 := rfl
          have h3 : (⟨(joinC 58 ((List.range n2).map fun j => hexT (pr (o2 + j)))).toArray⟩ : ByteArray).size = (joinC 58 ((List.range n2).map fun j => hexT (pr (o2 + j)))).length := rfl
          rw [ByteArray.size_append, h1, h2, h3]
          have := HC.out
          omega)
        clear hsl2 hon hnc q8 q9 HMN HFW HV hLR
        obtain ⟨wJ, hwJ⟩ : ∃ x, x = w2 := ⟨_, rfl⟩
        rw [← hwJ] at HJ1 HJ2 hBw ⊢
        clear hwJ hB2
        go_upto_region 10 with fail
        refine wp_region3 (Below wJ.heap.size wJ) wJ.heap.size
            ([] : List (Nat × Cont))
            [kv (.int .i64 (f : Int)), kv (.slice (some ⟨g3, 0, none⟩) f 8), kv (.string ⟨(joinC 58 ((List.range f).map fun j => hexT (pr j))).toArray⟩), kv (.string (⟨(joinC 58 ((List.range f).map fun j => hexT (pr j))).toArray⟩ ++ ddS)), kv (.int .i64 (f : Int)), kv (.int .i64 (m : Int)), kv (.int .i64 ((f + m : Nat) : Int)), kv (.slice (some ⟨g3, o2, none⟩) n2 c2), kv (.string ⟨(joinC 58 ((List.range n2).map fun j => hexT (pr (o2 + j)))).toArray⟩), kv (.string ((⟨(joinC 58 ((List.range f).map fun j => hexT (pr j))).toArray⟩ ++ ddS) ++ ⟨(joinC 58 ((List.range n2).map fun j => hexT (pr (o2 + j)))).toArray⟩)), kv (.string ((⟨(joinC 58 ((List.range f).map fun j => hexT (pr j))).toArray⟩ ++ ddS) ++ ⟨(joinC 58 ((List.range n2).map fun j => hexT (pr (o2 + j)))).toArray⟩))]
            [.none, .none, .none, .none, .none, .none, .none, .none, .none, .none, .none]
            [some 38, some 39, some 40, some 41, some 42, some 43, some 44, some 45, some 46, some 47, some 2]
            [(5, .int .i64 (f : Int)), (6, .int .i64 (m : Int)), (3, .pointer (some ⟨g3, 0, none⟩))]
            [[], [.slot 0], [.slot 1], [.slot 2], [], [], [.slot 4, .slot 5], [.slot 6], [.slot 7], [.slot 3, .slot 8], [.slot 9]]
            [.slot 10] [38, 39, 40, 41, 42, 43, 44, 45, 46, 47, 2]
            rfl (by kernel_rfl) ⟨rfl, rfl, rfl, trivial⟩ ((Below.refl _ wJ).drew) (Nat.le_refl _) trivial trivial (below_GcW (Nat.le_refl _))
            ⟨
              (fun Q aq ww own hS hBg fr kn => .inl ⟨trivial, fun K hK => wp_value (exec_move rfl fr.1) (hK _ _ ⟨Touch.refl _ _, rfl⟩)⟩),
              (fun Q aq ww own hS hBg fr kn => .inl ⟨trivial, fun K hK => wp_value (exec_slH rfl fr.2.2.1 kn.1 (sl8h g3 ww f (by omega))) (hK _ _ ⟨Touch.refl _ _, rfl⟩)⟩),
              (fun Q aq ww own hS hBg fr kn => .inl ⟨trivial, fun K hK => stepc enterW_Jo rfl (args2 kn.1 rfl) (HJ1.out ww hS) (fun w' hb => hK _ _ ⟨touch_below hb, rfl⟩)⟩),
              (fun Q aq ww own hS hBg fr kn => .inl ⟨trivial, fun K hK => wp_value (exec_catS (t := ddS) rfl kn.1 rfl HC1.out) (hK _ _ ⟨Touch.refl _ _, rfl⟩)⟩),
              (fun Q aq ww own hS hBg fr kn => .inl ⟨trivial, fun K hK => wp_value (exec_move rfl fr.1) (hK _ _ ⟨Touch.refl _ _, rfl⟩)⟩),
              (fun Q aq ww own hS hBg fr kn => .inl ⟨trivial, fun K hK => wp_value (exec_move rfl fr.2.1) (hK _ _ ⟨Touch.refl _ _, rfl⟩)⟩),
              (fun Q aq ww own hS hBg fr kn => .inl ⟨trivial, fun K hK => wp_value (exec_addW (i := f) (m := m) rfl kn.1 kn.2.1 rfl (by omega)) (hK _ _ ⟨Touch.refl _ _, rfl⟩)⟩),
              (fun Q aq ww own hS hBg fr kn => .inl ⟨trivial, fun K hK => wp_value (exec_slL rfl fr.2.2.1 kn.1 (HSL.out ww)) (hK _ _ ⟨Touch.refl _ _, rfl⟩)⟩),
              (fun Q aq ww own hS hBg fr kn => .inl ⟨trivial, fun K hK => stepc enterW_Jo rfl (args2 kn.1 rfl) (HJ2.out ww hS) (fun w' hb => hK _ _ ⟨touch_below hb, rfl⟩)⟩),
              (fun Q aq ww own hS hBg fr kn => .inl ⟨trivial, fun K hK => wp_value (exec_catS rfl kn.1 kn.2.1 HC2.out) (hK _ _ ⟨Touch.refl _ _, rfl⟩)⟩),
              (fun Q aq ww own hS hBg fr kn => .inl ⟨trivial, fun K hK => wp_value (exec_assign rfl kn.1) (hK _ _ ⟨Touch.refl _ _, rfl⟩)⟩),
              trivial⟩ ?_
        intro vs own u6 hB6 hsz6 kn inj
        have e2 : vs 2 = .string ((⟨(joinC 58 ((List.range f).map fun j => hexT (pr j))).toArray⟩ ++ ddS) ++ ⟨(joinC 58 ((List.range n2).map fun j => hexT (pr (o2 + j)))).toArray⟩) := kn.1
        have e3 : ((⟨(joinC 58 ((List.range f).map fun j => hexT (pr j))).toArray⟩ ++ ddS) ++ ⟨(joinC 58 ((List.range n2).map fun j => hexT (pr (o2 + j)))).toArray⟩ : ByteArray) = sixS pr := by
          apply lsT_inj
          rw [lsT_app, lsT_app]
          show ((joinC 58 ((List.range f).map fun j => hexT (pr j)) ++ [58, 58]) ++ joinC 58 ((List.range n2).map fun j => hexT (pr (o2 + j))) : List UInt8) = textSix pr
          rw [← HE.out, List.append_assoc]
          rfl
        rw [e3] at e2
        clear kn inj hsz6 e3
        simp only [putAll, Act.put, List.setIfInBounds_toArray, List.set_cons_zero, List.set_cons_succ, e2]
        clear e2
        go_wp2_with fail
        go_ret
        exact ⟨rfl, hBw.trans (hB6.mono hBw.size)⟩
def textV (v : Bool) (b : Nat → Int) : ByteArray := if v = true then sixS (prF b) else fourS b
theorem Text_no (v : Bool) (b : Nat → Int) (w : World) (hv : validF v b = false) : Calls Tryd.prog 18 #[.agg (SC 17 (adV v b))] w fun e w' => e = .returned (.tuple #[.string ByteArray.empty, .int .i64 1]) ∧ Below w.heap.size w w' := by
  have HR := Hid.mk hv
  clear hv
  go_enter Tryd.func18, Tryd.ntmps18
  go_wp2_with (refine wl_boxO rfl rfl isAddr (by rfl) ?_; intro g u1 hg g1 hB1; refine Hid.out ?_)
  refine Hid.mk ?_
  go_wp2_with (first | (refine wl_value rfl (look_st rfl isAddr g1 (by rfl)) ?_) | (go_at_call 20; refine (Valid_run v b _).mono ?_; rintro e w2 ⟨rfl, hB2⟩; simp only [HR.out]; refine Hid.out ?_))
  refine Hid.mk ?_
  go_wp2_with fail
  exact bodyPost_ret (results_two rfl (by rfl) (by rfl)) rfl ⟨rfl, hB1.trans (hB2.mono hB1.size)⟩
set_option maxHeartbeats 4000000 in
theorem Text_run (v : Bool) (b : Nat → Int) (w : World) (hb : Byts 16 b) (hE : Env w) (hv : validF v b = true) : Calls Tryd.prog 18 #[.agg (SC 17 (adV v b))] w fun e w' => e = .returned (.tuple #[.string (textV v b), .int .i64 0]) ∧ Below w.heap.size w w' := by
  have HR := Hid.mk hv
  clear hv
  go_enter Tryd.func18, Tryd.ntmps18
  go_wp2_with (refine wl_boxO rfl rfl isAddr (by rfl) ?_; intro g u1 hg g1 hB1; refine Hid.out ?_)
  refine Hid.mk ?_
  go_wp2_with (first | (refine wl_value rfl (look_st rfl isAddr g1 (by rfl)) ?_) | (go_at_call 20; refine (Valid_run v b _).mono ?_; rintro e w2 ⟨rfl, hB2⟩; simp only [HR.out]; refine Hid.out ?_))
  refine Hid.mk ?_
  have g2 := SAt.kept g1 hB2
  have c0 := ad_v g2
  have hB3 := hB1.trans (hB2.mono hB1.size)
  have HE := Hid.mk (hE.kept hB3)
  cases v
  · go_wp2_with (first | (refine wl_value rfl (exec_fadW0 rfl (by rfl)) ?_) | (refine wl_value rfl (look_st rfl isAddr g2 (by rfl)) ?_) | (go_at_call 38; refine (text4_run false b _ hb HE.out).mono ?_; rintro e w4 ⟨rfl, hB4⟩; refine Hid.out ?_))
    refine Hid.mk ?_
    go_wp2_with fail
    exact bodyPost_ret (results_two rfl (by rfl) (by rfl)) rfl ⟨rfl, hB3.trans (hB4.mono hB3.size)⟩
  · go_wp2_with (first | (refine wl_value rfl (exec_fadW0 rfl (by rfl)) ?_) | (refine wl_value rfl (look_st rfl isAddr g2 (by rfl)) ?_) | (go_at_call 37; refine (text6_run true b _ hb HE.out).mono ?_; rintro e w4 ⟨rfl, hB4⟩; refine Hid.out ?_))
    refine Hid.mk ?_
    go_wp2_with fail
    exact bodyPost_ret (results_two rfl (by rfl) (by rfl)) rfl ⟨rfl, hB3.trans (hB4.mono hB3.size)⟩
end Go.Proofs.YtklgpmpmolphaaaDoor
/-
  Own text. strconv.ParseUint of base 16 and 16 bits, of base 10 and 8 bits: a number, or an error.
-/
namespace Go.Proofs.YtklgpmpmolphaaaDoor
open Go.RowKit Go.Proofs
set_option maxRecDepth 100000
def lowF (c : UInt8) : Int := bits .or .u8 (c.toNat : Int) 32
def lowGood (n : Nat) : Bool := match hexV (UInt8.ofNat n) with
  | some d => decide (48 ≤ n ∧ n ≤ 57 ∧ d = n - 48) || (!(decide (48 ≤ n ∧ n ≤ 57)) && decide (97 ≤ bits .or .u8 (n : Int) 32 ∧ bits .or .u8 (n : Int) 32 ≤ 102 ∧ bits .or .u8 (n : Int) 32 - 97 + 10 = (d : Int)))
  | none => !(decide (48 ≤ n ∧ n ≤ 57)) && (decide (bits .or .u8 (n : Int) 32 < 97) || decide (102 < bits .or .u8 (n : Int) 32))
theorem low_tab : ((List.range 256).all lowGood) = true := by decide +kernel
theorem low_all (c : UInt8) : lowGood c.toNat = true := List.all_eq_true.1 low_tab c.toNat (List.mem_range.2 c.toNat_lt)
theorem low_some {c : UInt8} {d : Nat} (h : hexV c = some d) : (48 ≤ c.toNat ∧ c.toNat ≤ 57 ∧ d = c.toNat - 48) ∨ ((c.toNat < 48 ∨ 57 < c.toNat) ∧ 97 ≤ lowF c ∧ lowF c ≤ 102 ∧ lowF c - 97 + 10 = (d : Int)) := by
  have g := low_all c
  unfold lowGood at g
  rw [UInt8.ofNat_toNat, h] at g
  simp only [Bool.or_eq_true, Bool.and_eq_true, decide_eq_true_eq, Bool.not_eq_true', decide_eq_false_iff_not] at g
  rcases g with g | g
  · exact .inl g
  · exact .inr ⟨by omega, g.2⟩
theorem low_none {c : UInt8} (h : hexV c = none) : (c.toNat < 48 ∨ 57 < c.toNat) ∧ (lowF c < 97 ∨ 102 < lowF c) := by
  have g := low_all c
  unfold lowGood at g
  rw [UInt8.ofNat_toNat, h] at g
  simp only [Bool.or_eq_true, Bool.and_eq_true, decide_eq_true_eq, Bool.not_eq_true', decide_eq_false_iff_not] at g
  exact ⟨by omega, g.2⟩
theorem lower_run (c : Int) (w : World) : Calls Tryd.prog 84 #[.int .u8 c] w fun e w' => e = .returned (.int .u8 (bits .or .u8 c 32)) ∧ w' = w := AnyPu.internal_strconv_lower { sh_laysPu14 with } c w
set_option maxHeartbeats 32000000 in
theorem iParse16_run (t : ByteArray) (w : World) (hne : t.size ≠ 0) (hmax : t.size ≤ 9223372036854775806) : Calls Tryd.prog 68 #[.string t, .int .i64 16, .int .i64 16] w fun e w' => e = .returned (Lib.uintTupleM 109 65535 (hexM 0 (lsT t))) ∧ w' = Lib.bytesWorld w 5 t := by
  have hemp : t.toList.isEmpty = false := by
    rw [← decide_eq_emptyBytes]
    exact decide_eq_false (fun h => hne (by rw [h]; rfl))
  have hcv := Lib.run_convert_string_bytes (P := Tryd.prog) w 9 55 5 t (u := .string) Tryd.underlying9 Tryd.underlying55 Tryd.underlying5
  have hB : ∀ j, j < t.size → (Lib.bytesWorld w 5 t).cell? ⟨w.heap.size, j, none⟩ = some (.int .u8 (t.data.toList.getD j 0).toNat) := fun j hj => Lib.bytesWorld_cell w 5 t j hj
  obtain ⟨W1, hW1⟩ : ∃ W1, W1 = Lib.bytesWorld w 5 t := ⟨_, rfl⟩
  rw [← hW1] at hcv hB ⊢
  clear hW1
  obtain ⟨bs, hL⟩ : ∃ bs, bs = t.data.toList := ⟨_, rfl⟩
  have hLn : bs.length = t.size := by rw [hL, Lib.size_eq]
  have hL2 : lsT t = bs := by rw [hL]; rfl
  rw [← hL] at hB
  rw [hL2]
  clear hL hL2
  have hmv : IntKind.u64.wrap (IntKind.u64.wrap 65536 - 1) = 65535 := by
    rw [IntKind.wrap_u64, IntKind.wrap_u64]
    decide
  go_enter Tryd.func68, Tryd.ntmps68
  go_wp2
  go_loop [12, 13, 101] (fun vu vn vi => ∃ (k acc : Nat) (a : Int), vu = .bool false ∧ vn = .int .u64 a ∧ vi = .int .i64 k ∧ k ≤ t.size ∧ Hid (a = (acc : Int) ∧ acc ≤ 65535 ∧ hexM 0 bs = hexM acc (bs.drop k)))
    (fun _ _ vi => t.size - (intOf vi).toNat)
  case atStart => exact ⟨0, 0, 0, rfl, rfl, rfl, by omega, Hid.mk ⟨rfl, by omega, rfl⟩⟩
  case round =>
    obtain ⟨k, acc, a, rfl, rfl, rfl, hk, hh⟩ := hrel
    obtain ⟨ha, hacc, hdec⟩ := hh.out
    clear hh
    have a0 : 0 ≤ a := by omega
    have a1 : a ≤ 65535 := by omega
    by_cases hkn : k < t.size
    · have hc := hB k hkn
      have hdrop : bs.drop k = bs[k]'(by omega) :: bs.drop (k + 1) := List.drop_eq_getElem_cons (by omega)
      have hget : bs.getD k 0 = bs[k]'(by omega) := by simp [List.getD, List.getElem?_eq_getElem (show k < bs.length by omega)]
      rw [hdrop] at hdec
      rw [hget] at hc
      generalize bs[k]'(by omega) = c at hc hdec
      have hc256 : c.toNat < 256 := c.toNat_lt
      clear hB hdrop hget
      cases hv : hexV c with
      | some d =>
        have hd16 := hex_lt hv
        have hls := low_some hv
        have h95 : ¬ (c.toNat : Int) = 95 := fun e => by
          have e2 : c.toNat = 95 := by omega
          have : hexV c = none := by unfold hexV; rw [e2]; rfl
          rw [this] at hv
          cases hv
        have hb95 : ((c.toNat : Int) == 95) = false := beq_eq_false_iff_ne.2 h95
        by_cases hov : 65535 < acc * 16 + d
        · have hF : hexM acc (c :: bs.drop (k + 1)) = .range := by rw [hexM, hv]; show (if 65535 < acc * 16 + d then _ else _) = _; rw [if_pos hov]
          rw [hF] at hdec
          have iov : 65535 < a * 16 + (d : Int) := by omega
          clear hacc hF hov ha
          rcases hls with ⟨q1, q2, q3⟩ | ⟨q1, q2, q3, q4⟩
          · have iov2 : 65535 < a * 16 + ((c.toNat : Int) - 48) := by omega
            go_wp2
            go_ret2
            first | exact ⟨rfl, rfl⟩ | exact ⟨by rw [hdec]; rfl, rfl⟩
          · unfold lowF at q2 q3 q4
            have iov2 : 65535 < a * 16 + (bits .or .u8 (c.toNat : Int) 32 - 97 + 10) := by omega
            rcases q1 with q1 | q1
            · go_wp2_with (go_at_call 84; refine (lower_run _ _).mono ?_; rintro e w' ⟨rfl, rfl⟩)
              all_goals go_ret2
              all_goals first | exact ⟨rfl, rfl⟩ | exact ⟨by rw [hdec]; rfl, rfl⟩
            · go_wp2_with (go_at_call 84; refine (lower_run _ _).mono ?_; rintro e w' ⟨rfl, rfl⟩)
              all_goals go_ret2
              all_goals first | exact ⟨rfl, rfl⟩ | exact ⟨by rw [hdec]; rfl, rfl⟩
        · have hF : hexM acc (c :: bs.drop (k + 1)) = hexM (acc * 16 + d) (bs.drop (k + 1)) := by rw [hexM, hv]; show (if 65535 < acc * 16 + d then _ else _) = _; rw [if_neg hov]
          have HN : Hid (a * 16 + (d : Int) = ((acc * 16 + d : Nat) : Int) ∧ acc * 16 + d ≤ 65535 ∧ hexM 0 bs = hexM (acc * 16 + d) (bs.drop (k + 1))) := Hid.mk ⟨by omega, by omega, hdec.trans hF⟩
          have iov : a * 16 + (d : Int) ≤ 65535 := by omega
          clear hacc hF hov hdec ha
          rcases hls with ⟨q1, q2, q3⟩ | ⟨q1, q2, q3, q4⟩
          · have iov2 : a * 16 + ((c.toNat : Int) - 48) ≤ 65535 := by omega
            have eq : a * 16 + ((c.toNat : Int) - 48) = a * 16 + (d : Int) := by omega
            go_wp2
            refine ⟨⟨k + 1, acc * 16 + d, a * 16 + (d : Int), rfl, (by first | rfl | (congr 1; omega)), (by first | rfl | (congr 1; omega)), by omega, HN⟩, by simp [intOf]; omega⟩
          · unfold lowF at q2 q3 q4
            have iov2 : a * 16 + (bits .or .u8 (c.toNat : Int) 32 - 97 + 10) ≤ 65535 := by omega
            rcases q1 with q1 | q1
            · go_wp2_with (go_at_call 84; refine (lower_run _ _).mono ?_; rintro e w' ⟨rfl, rfl⟩)
              all_goals refine ⟨⟨k + 1, acc * 16 + d, a * 16 + (d : Int), rfl, (by first | rfl | (congr 1; omega)), (by first | rfl | (congr 1; omega)), by omega, HN⟩, by simp [intOf]; omega⟩
            · go_wp2_with (go_at_call 84; refine (lower_run _ _).mono ?_; rintro e w' ⟨rfl, rfl⟩)
              all_goals refine ⟨⟨k + 1, acc * 16 + d, a * 16 + (d : Int), rfl, (by first | rfl | (congr 1; omega)), (by first | rfl | (congr 1; omega)), by omega, HN⟩, by simp [intOf]; omega⟩
      | none =>
        have hF : hexM acc (c :: bs.drop (k + 1)) = .syntax := by rw [hexM, hv]
        rw [hF] at hdec
        clear hacc hF ha
        have hln := low_none hv
        unfold lowF at hln
        have hv0 := bits_lo_u8 .or (c.toNat : Int) 32
        have hv1 := bits_hi_u8 .or (c.toNat : Int) 32
        have hu0 := bits_lo_u8 .or 95 32
        have hu1 := bits_hi_u8 .or 95 32
        go_wp2_with (go_at_call 84; refine (lower_run _ _).mono ?_; rintro e w' ⟨rfl, rfl⟩)
        all_goals go_ret2
        all_goals first | exact ⟨by rw [hdec]; rfl, rfl⟩ | exact ⟨rfl, rfl⟩
    · have hkk : k = t.size := by omega
      subst hkk
      have hF : hexM acc (bs.drop t.size) = .ok acc := by rw [List.drop_eq_nil_of_le (by omega)]; rfl
      rw [hF] at hdec
      subst ha
      clear hacc hF a0 a1
      go_wp2
      go_ret2
      first | exact ⟨rfl, rfl⟩ | exact ⟨by rw [hdec]; rfl, rfl⟩
end Go.Proofs.YtklgpmpmolphaaaDoor
/-
  Own text. The library's functions in the words of this layer: ParseUint, SplitN, Cut, Repeat.
-/
namespace Go.Proofs.YtklgpmpmolphaaaDoor
open Go.RowKit Go.Proofs
set_option maxRecDepth 100000
/-- A number, or an error that is not nil. -/
def NumQ (R : Lib.NumEnd Nat) (e : Ending) : Prop := (∃ n : Nat, R = .ok n ∧ e = .returned (.tuple #[.int .u64 (n : Int), .nilIface])) ∨ ((∀ n, R ≠ .ok n) ∧ ∃ u t p, e = .returned (.tuple #[.int .u64 u, .iface t p]))
theorem bytes_or {w w' : World} {s : ByteArray} (h : w' = w ∨ w' = Lib.bytesWorld w 5 s) : Below w.heap.size w w' := by
  rcases h with rfl | rfl
  · exact Below.refl _ _
  · exact Lib.bytesWorld_below _ _ _
theorem Parse10_run (s : ByteArray) (w : World) (hs : s.size ≤ 281474976710656) (hE : Env w) : Calls Tryd.prog 53 #[.string s, .int .i64 10, .int .i64 8] w fun e w' => NumQ (Lib.parseUintB 8 (lsT s)) e ∧ Below w.heap.size w w' := by
  obtain ⟨_, _, ⟨t1, p1, h1⟩, ⟨t2, p2, h2⟩, _⟩ := hE
  have hR : Lib.parseUintB 8 (lsT s) = Lib.parseUintB 8 s.data.toList := rfl
  rw [hR]
  cases h : Lib.parseUintB 8 s.data.toList with
  | ok n =>
    refine (sh_strconv_ParseUint_10_at8_ok s (by omega) n h w).mono ?_
    rintro e w' ⟨rfl, hw⟩
    exact ⟨.inl ⟨n, rfl, rfl⟩, bytes_or hw⟩
  | «syntax» =>
    refine (sh_strconv_ParseUint_10_at8_syntax s hs h _ w h1 (.inr ⟨t1, p1, rfl⟩)).mono ?_
    rintro e w' ⟨N, rfl, _, _, hb⟩
    exact ⟨.inr ⟨fun n hn => (by cases hn), _, _, _, rfl⟩, hb⟩
  | range =>
    refine (sh_strconv_ParseUint_10_at8_range s hs h _ w h2 (.inr ⟨t2, p2, rfl⟩)).mono ?_
    rintro e w' ⟨N, rfl, _, _, hb⟩
    exact ⟨.inr ⟨fun n hn => (by cases hn), _, _, _, rfl⟩, hb⟩
theorem iParse16_any (s : ByteArray) (w : World) (hs : s.size ≤ 9223372036854775806) : Calls Tryd.prog 68 #[.string s, .int .i64 16, .int .i64 16] w fun e w' => e = .returned (Lib.uintTupleM 109 65535 (hexB (lsT s))) ∧ Below w.heap.size w w' := by
  by_cases h : s.size = 0
  · have e0 : s = ⟨#[]⟩ := by
      apply lsT_inj
      exact List.eq_nil_of_length_eq_zero (by rw [lsT_len]; exact h)
    subst e0
    refine (AnyPu.internal_strconv_ParseUint_empty { sh_laysPu14 with } 16 16 w).mono ?_
    rintro e w' ⟨rfl, rfl⟩
    exact ⟨rfl, Below.refl _ _⟩
  · refine (iParse16_run s w h hs).mono ?_
    rintro e w' ⟨rfl, rfl⟩
    refine ⟨?_, Lib.bytesWorld_below _ _ _⟩
    unfold hexB
    rw [if_neg (fun e => h (by rw [← lsT_len, e]; rfl))]
def puS : ByteArray := ⟨#[80, 97, 114, 115, 101, 85, 105, 110, 116]⟩
theorem toErr_syntax (s : ByteArray) (w : World) (hs : s.size ≤ 281474976710656) (hE : Env w) : Calls Tryd.prog 69 #[.string puS, .string s, .int .i64 16, .int .i64 16, .iface 109 (.int .i64 2)] w fun e w' => (∃ t p, e = .returned (.iface t p)) ∧ Below w.heap.size w w' := by
  obtain ⟨_, _, ⟨t1, p1, h1⟩, _, _⟩ := hE
  refine (AnyPu.strconv_toError_syntax { sh_laysPu14 with } puS s 16 16 _ w hs h1 (.inr ⟨t1, p1, rfl⟩)).mono ?_
  rintro e w' ⟨N, rfl, _, _, hb⟩
  exact ⟨⟨_, _, rfl⟩, hb⟩
theorem toErr_range (s : ByteArray) (w : World) (hs : s.size ≤ 281474976710656) (hE : Env w) : Calls Tryd.prog 69 #[.string puS, .string s, .int .i64 16, .int .i64 16, .iface 109 (.int .i64 1)] w fun e w' => (∃ t p, e = .returned (.iface t p)) ∧ Below w.heap.size w w' := by
  obtain ⟨_, _, _, ⟨t1, p1, h1⟩, _⟩ := hE
  refine (AnyPu.strconv_toError_range { sh_laysPu14 with } puS s 16 16 _ w hs h1 (.inr ⟨t1, p1, rfl⟩)).mono ?_
  rintro e w' ⟨N, rfl, _, _, hb⟩
  exact ⟨⟨_, _, rfl⟩, hb⟩
set_option maxHeartbeats 4000000 in
theorem Parse16_run (s : ByteArray) (w : World) (hs : s.size ≤ 281474976710656) (hE : Env w) : Calls Tryd.prog 53 #[.string s, .int .i64 16, .int .i64 16] w fun e w' => NumQ (hexB (lsT s)) e ∧ Below w.heap.size w w' := by
  have HI := Hid.mk (iParse16_any s w (by omega))
  go_enter Tryd.func53, Tryd.ntmps53
  cases h : hexB (lsT s) with
  | ok n =>
    rw [h] at HI
    have HI2 : Hid (Calls Tryd.prog 68 #[.string s, .int .i64 16, .int .i64 16] w fun e w' => e = .returned (.tuple #[.int .u64 (n : Int), .nilIface]) ∧ Below w.heap.size w w') := HI
    clear HI
    go_wp2_with (go_at_call 68; refine HI2.out.mono ?_; rintro e w1 ⟨rfl, hB1⟩; refine Hid.out ?_)
    refine Hid.mk ?_
    go_wp2
    exact bodyPost_ret (results_two rfl (by rfl) (by rfl)) rfl ⟨.inl ⟨n, rfl, rfl⟩, hB1⟩
  | «syntax» =>
    rw [h] at HI
    have HI2 : Hid (Calls Tryd.prog 68 #[.string s, .int .i64 16, .int .i64 16] w fun e w' => e = .returned (.tuple #[.int .u64 0, .iface 109 (.int .i64 2)]) ∧ Below w.heap.size w w') := HI
    clear HI
    go_wp2_with (go_at_call 68; refine HI2.out.mono ?_; rintro e w1 ⟨rfl, hB1⟩; refine Hid.out ?_)
    refine Hid.mk ?_
    have HT := Hid.mk (toErr_syntax s w1 hs (hE.kept hB1))
    go_wp2_with (go_at_call 69; refine HT.out.mono ?_; rintro e w2 ⟨⟨tt, pp, rfl⟩, hB2⟩; refine Hid.out ?_)
    refine Hid.mk ?_
    go_wp2
    exact bodyPost_ret (results_two rfl (by rfl) (by rfl)) rfl ⟨.inr ⟨fun n hn => (by cases hn), _, _, _, rfl⟩, hB1.trans (hB2.mono hB1.size)⟩
  | range =>
    rw [h] at HI
    have HI2 : Hid (Calls Tryd.prog 68 #[.string s, .int .i64 16, .int .i64 16] w fun e w' => e = .returned (.tuple #[.int .u64 65535, .iface 109 (.int .i64 1)]) ∧ Below w.heap.size w w') := HI
    clear HI
    go_wp2_with (go_at_call 68; refine HI2.out.mono ?_; rintro e w1 ⟨rfl, hB1⟩; refine Hid.out ?_)
    refine Hid.mk ?_
    have HT := Hid.mk (toErr_range s w1 hs (hE.kept hB1))
    go_wp2_with (go_at_call 69; refine HT.out.mono ?_; rintro e w2 ⟨⟨tt, pp, rfl⟩, hB2⟩; refine Hid.out ?_)
    refine Hid.mk ?_
    go_wp2
    exact bodyPost_ret (results_two rfl (by rfl) (by rfl)) rfl ⟨.inr ⟨fun n hn => (by cases hn), _, _, _, rfl⟩, hB1.trans (hB2.mono hB1.size)⟩
/-- A row of texts that lies at a place. -/
def RowS (w : World) (g : Nat) (ps : List ByteArray) : Prop := ∀ (j : Nat) (x : ByteArray), ps[j]? = some x → w.cell? ⟨g, j, none⟩ = some (.string x)
theorem RowS.kept {w w' : World} {g : Nat} {ps : List ByteArray} (h : RowS w g ps) (hb : Below w.heap.size w w') : RowS w' g ps := fun j x hj => by
  have hc := h j x hj
  exact (hb.cell (World.block_lt_of_cell? _ _ hc)).trans hc
theorem SplitN_run (s : ByteArray) (c : UInt8) (n : Nat) (w : World) (hs : s.size < 4294967281) (hn : 1 ≤ n) (hn9 : n ≤ 9) (hE : Env w) : Calls Tryd.prog 52 #[.string s, .string ⟨#[c]⟩, .int .i64 (n : Int)] w fun e w' => ∃ g cp ps, e = .returned (.slice (some ⟨g, 0, none⟩) ps.length cp) ∧ ps.map lsT = Lib.splitK [c] 0 (min n (s.size + 1) - 1) (lsT s) ∧ RowS w' g ps ∧ w.heap.size ≤ g ∧ Below w.heap.size w w' := by
  obtain ⟨_, ⟨m, hm⟩, _⟩ := hE
  refine (sh_strings_SplitN s ⟨#[c]⟩ n m w hs hm (Nat.le_refl 1) hn (by omega)).mono ?_
  rintro e w' ⟨rfl, rfl⟩
  refine ⟨w.heap.size, _, _, rfl, Lib.splitB_data ⟨#[c]⟩ 0 _ s, ?_, Nat.le_refl _, (Below.refl _ w).alloc (Nat.le_refl _) _⟩
  intro j x hj
  have h1 := heap_alloc_new w (.cells (Lib.cellsOf (Lib.splitB ⟨#[c]⟩ 0 (min n (s.size + 1) - 1) s) (min n (s.size + 1))) 9)
  rw [World.cell?, h1]
  have hl := (List.getElem?_eq_some_iff.1 hj).1
  have h2 : (Lib.cellsOf (Lib.splitB ⟨#[c]⟩ 0 (min n (s.size + 1) - 1) s) (min n (s.size + 1)))[j]? = some (.string x) := by
    unfold Lib.cellsOf
    rw [List.getElem?_toArray, List.getElem?_append_left (by rw [List.length_map]; exact hl), List.getElem?_map, hj]
    rfl
  simpa using h2
theorem Cut_run (s : ByteArray) (w : World) (hs : s.size < 4294967281) (hE : Env w) : Calls Tryd.prog 54 #[.string s, .string ddS] w fun e w' => (∃ h t b, e = .returned (.tuple #[.string h, .string t, .bool b]) ∧ ((cutDD (lsT s) = none ∧ b = false ∧ h = s ∧ t = ByteArray.empty) ∨ (cutDD (lsT s) = some (lsT h, lsT t) ∧ b = true ∧ lsT s = lsT h ++ 58 :: 58 :: lsT t))) ∧ Below w.heap.size w w' := by
  obtain ⟨_, ⟨m, hm⟩, _⟩ := hE
  refine (sh_strings_Cut s ddS m w hs hm).mono ?_
  rintro e w' ⟨rfl, n, rfl⟩
  refine ⟨⟨_, _, _, rfl, ?_⟩, ⟨rfl, rfl, rfl, Nat.le_refl _, fun k _ => rfl⟩⟩
  have hd : ddS.data.toList = [58, 58] := rfl
  rw [hd]
  have hl : lsT s = s.data.toList := rfl
  rcases cut_lib s.data.toList with ⟨h1, h2⟩ | ⟨h, t, h1, h2, h3⟩
  · refine .inl ⟨h1, by rw [h2], ?_, by rw [h2]; rfl⟩
    rw [h2]
  · rw [h2]
    exact .inr ⟨h1, rfl, h3⟩
theorem Repeat_run (n : Nat) (w : World) (hn : n ≤ 16) : Calls Tryd.prog 56 #[.string ⟨#[0]⟩, .int .i64 (n : Int)] w fun e w' => (∃ z, e = .returned (.string z) ∧ lsT z = List.replicate n 0) ∧ Below w.heap.size w w' := by
  have hz : (⟨#[0]⟩ : ByteArray).size = 1 := rfl
  refine (sh_strings_Repeat ⟨#[0]⟩ n w (by omega) (by rw [hz]; omega)).mono ?_
  rintro e w' ⟨rfl, hb⟩
  refine ⟨⟨_, rfl, ?_⟩, hb⟩
  show Lib.repeatL [0] n = List.replicate n 0
  clear hz hb hn
  induction n with
  | zero => rfl
  | succ n ih => rw [Lib.repeatL, ih]; rfl
end Go.Proofs.YtklgpmpmolphaaaDoor
/-
  Own text. The program's own parse4.
-/
namespace Go.Proofs.YtklgpmpmolphaaaDoor
open Go.RowKit Go.Proofs
set_option maxRecDepth 100000
theorem split_mem_len {c : UInt8} : ∀ (l : List UInt8) (p : List UInt8), p ∈ splitC c l → p.length ≤ l.length
  | [], p, hp => by
    simp [splitC] at hp
    rw [hp]
    exact Nat.le_refl _
  | x :: l, p, hp => by
    have ih := split_mem_len (c := c) l
    rw [splitC] at hp
    split at hp
    · rcases List.mem_cons.1 hp with e | hp
      · rw [e]; simp
      · have := ih p hp
        simp
        omega
    · cases h : splitC c l with
      | nil =>
        rw [h] at hp
        simp at hp
        rw [hp]
        simp
      | cons a b =>
        rw [h] at hp ih
        rcases List.mem_cons.1 hp with e | hp
        · have := ih a (by simp)
          rw [e]
          simp
          omega
        · have := ih p (by simp [hp])
          simp
          omega
/-- The pieces of a text that is cut at most n - 1 times. -/
theorem pieces_len {s : ByteArray} {c : UInt8} {n : Nat} {ps : List ByteArray} (h : ps.map lsT = Lib.splitK [c] 0 (min n (s.size + 1) - 1) (lsT s)) (hn : 1 ≤ n) : ps.length = min n (splitC c (lsT s)).length ∧ ((splitC c (lsT s)).length ≤ n → ps.map lsT = splitC c (lsT s)) ∧ (n < (splitC c (lsT s)).length → ∃ pre z, ps.map lsT = pre ++ [z] ∧ c ∈ z) := by
  obtain ⟨h1, h2, h3⟩ := splitK_c c (lsT s) (min n (s.size + 1) - 1)
  have hz := split_size c (lsT s)
  rw [lsT_len] at hz
  have hl : ps.length = (ps.map lsT).length := by rw [List.length_map]
  refine ⟨?_, fun hh => ?_, fun hh => ?_⟩
  · rw [hl, h, h1]
    omega
  · rw [h]
    exact h2 (by omega)
  · rw [h]
    exact h3 (by omega)
theorem tou_G1 {Y : World} {g5 : Nat} {c5 : Cont} {X2 : World} (_hs : Y.heap.size ≤ X2.heap.size) (w w' : World) (h : Touch (fun k => k = g5) Y w) (ht : Touch (fun k => X2.heap.size ≤ k ∨ k ∈ ([(g5, c5)] : List (Nat × Cont)).map (·.1)) w w') : Touch (fun k => k = g5) Y w' :=
  ⟨ht.os.trans h.os, ht.tape.trans h.tape, ht.output.trans h.output, Nat.le_trans h.size ht.size, fun k hk hn => (ht.block k (Nat.lt_of_lt_of_le hk h.size) (fun e => e.elim (fun e => by omega) (fun e => by simp at e; exact hn e))).trans (h.block k hk hn)⟩
theorem tou_below {T : Nat → Prop} {B : Nat} {w w' : World} (h : Touch T w w') (hT : ∀ k, T k → B ≤ k) (hB : B ≤ w.heap.size) : Below B w w' :=
  ⟨h.os, h.tape, h.output, h.size, fun k hk => h.block k (by omega) (fun e => by have := hT k e; omega)⟩
theorem exec_eqSb {a : Act} {o : Oper} {w : World} {x y : Operand} (ho : o.op = .binOp .eql 9 x y 9) {s t : ByteArray} (hx : a.eval x = .string s) (hy : a.eval y = .string t) {b : Bool} (hb : decide (s = t) = b) : (execOp a.eval o).run Tryd.prog w = .ok (.value (.bool b)) w := by
  subst hb
  exact exec_eqSd ho hx hy
theorem enterW_T4 (args : Array Value) (w : World) : (callFunc 38 args).run Tryd.prog w = .ok (.enter 38 args) w := by kernel_rfl
/-- What parse4 tells. -/
def Par4Q (R : Option (List Nat)) (e : Ending) : Prop := (∃ l, R = some l ∧ e = .returned (.tuple #[.agg (SC 17 (adV false (lsB l))), .bool true])) ∨ (R = none ∧ ∃ b, e = .returned (.tuple #[.agg (SC 17 (adV false b)), .bool false]))
theorem lsB_byts {l : List Nat} (h : ∀ n ∈ l, n < 256) : Byts 16 (lsB l) := fun j _ => by
  unfold lsB
  cases hj : l[j]? with
  | none => rw [List.getD_eq_getElem?_getD, hj]; exact ⟨by decide, by decide⟩
  | some n =>
    have := h n (List.mem_of_getElem? hj)
    rw [List.getD_eq_getElem?_getD, hj]
    exact ⟨by simp, by simp; omega⟩
set_option maxHeartbeats 16000000 in
theorem parse4_run (s : ByteArray) (w : World) (hs : s.size ≤ 2000000) (hE : Env w) : Calls Tryd.prog 43 #[.string s] w fun e w' => Par4Q (fourV (lsT s)) e ∧ Below w.heap.size w w' := by
  obtain ⟨R, hR⟩ : ∃ R, fourV (lsT s) = R := ⟨_, rfl⟩
  rw [hR]
  have HR := Hid.mk hR
  clear hR
  go_enter Tryd.func43, Tryd.ntmps43
  go_wp2_with (refine wl_alO rfl rfl zeroAddr ?_; intro g2 u1 hg2 q2 hB1; refine Hid.out ?_)
  refine Hid.mk ?_
  have HE1 := Hid.mk (hE.kept hB1)
  go_wp2_with (go_at_call 52; refine (SplitN_run s 46 5 _ (by omega) (by decide) (by decide) HE1.out).mono ?_; rintro e u2 ⟨g, cp, ps, rfl, hps, hrow, hgg, hB2⟩; refine Hid.out ?_)
  refine Hid.mk ?_
  obtain ⟨hl1, hl2, _⟩ := pieces_len hps (by decide)
  have p2 := SAt.kept q2 hB2
  have hBa := hB1.trans (hB2.mono hB1.size)
  clear q2 hB2 hps
  by_cases h4 : ps.length = 4
  · have hsp : ps.map lsT = splitC 46 (lsT s) := hl2 (by omega)
    have HSP := Hid.mk hsp
    rw [h4]
    have H4 := Hid.mk h4
    clear hl1 hl2 hsp h4
    go_wp2_with (refine wl_alO rfl rfl zeroAddr ?_; intro g5 u3 hg5 q5 hB3; refine Hid.out ?_)
    refine Hid.mk ?_
    have hg2l := SAt.lt p2
    have hBb := hBa.trans (hB3.mono hBa.size)
    have h52 : g5 ≠ g2 := by omega
    have hg5w : w.heap.size ≤ g5 := by have := hBa.size; omega
    have HGN : Hid (g ≠ g5) := Hid.mk (fun e => by
      have := World.block_lt_of_cell? _ _ (hrow 0 (ps[0]'(by rw [H4.out]; decide)) (List.getElem?_eq_getElem _))
      simp at this
      omega)
    have HS : Hid (SAt u3 g5 40 17 (adV false (fun _ => 0)) ∧ SAt u3 g2 40 17 (adV false (fun _ => 0)) ∧ RowS u3 g ps ∧ Below w.heap.size w u3) := Hid.mk ⟨q5, SAt.kept p2 hB3, hrow.kept hB3, hBb⟩
    have hgr := hgg
    clear q5 p2 hB3 hrow hBb hBa hB1 HE1 hg5 hg2l hgg
    go_wp2_with fail
    go_loopg [18] 4 (fun gm s18 z => ∃ (k : Nat) (l : List Nat), Hid (gm + k = 4) ∧ s18 = .int .i64 (k : Int) ∧ Hid (l.length = k ∧ (∀ i x, i < k → ps[i]? = some x → Lib.parseUintB 8 (lsT x) = .ok (l.getD i 0)) ∧ (∀ n ∈ l, n < 256)) ∧ Hid (SAt z g5 40 17 (adV false (lsB l)) ∧ SAt z g2 40 17 (adV false (fun _ => 0)) ∧ RowS z g ps ∧ Below w.heap.size w z))
    case atStart => exact ⟨0, [], Hid.mk rfl, rfl, Hid.mk ⟨rfl, fun i x hi => by omega, fun n hn => by simp at hn⟩, Hid.mk ⟨HS.out.1.congr (fun j _ => by unfold adV; split <;> rfl), HS.out.2⟩⟩
    case round =>
      obtain ⟨k, l, HK, rfl, HL, HW⟩ := hrel
      clear HS
      have hk4 : k ≤ 4 := by have := HK.out; omega
      obtain ⟨wI, hwI⟩ : ∃ x, x = wr := ⟨_, rfl⟩
      rw [← hwI] at HW ⊢
      clear hwI
      have HEW := Hid.mk (hE.kept HW.out.2.2.2)
      by_cases hk : k < 4
      · have hki : (k : Int) < 4 := by omega
        obtain ⟨x, hx⟩ : ∃ x, ps[k]? = some x := ⟨ps[k]'(by rw [H4.out]; exact hk), List.getElem?_eq_getElem _⟩
        have hxm : lsT x ∈ splitC 46 (lsT s) := by
          rw [← HSP.out]
          exact List.mem_map_of_mem (List.mem_of_getElem? hx)
        have hxl : x.size ≤ 2000000 := by
          have := split_mem_len _ _ hxm
          rw [lsT_len, lsT_len] at this
          omega
        have hcell : wI.cell? ((⟨g, 0, none⟩ : Addr).add k) = some (.string x) := by
          rw [Addr.add_lit, Nat.zero_add]
          exact HW.out.2.2.1 k x hx
        have HX := Hid.mk hx
        have HXM := Hid.mk hxm
        clear hx hxm
        go_wp2_with (first | (refine wl_value rfl (exec_ixSt (i := k) rfl (by rfl) (by rfl) hk) ?_) | (refine wl_value rfl (exec_ld rfl (by rfl) (load_str hcell)) ?_))
        refine (Parse10_run x _ (by omega) HEW.out).mono ?_
        rintro e u5 ⟨hq, hB5⟩
        have a5 := SAt.kept HW.out.1 hB5
        have a2 := SAt.kept HW.out.2.1 hB5
        have ar := HW.out.2.2.1.kept hB5
        have hBc := HW.out.2.2.2.trans (hB5.mono HW.out.2.2.2.size)
        rcases hq with ⟨n, hn, rfl⟩ | ⟨hn, u, tt, pp, rfl⟩
        · have hn256 := read_lt hn
          go_wp2_with (first | (refine wl_value rfl (exec_cvU8 (m := n) rfl (by rfl) hn256) ?_) | (refine wl_value rfl (exec_fadW1 rfl (by rfl)) ?_) | (refine wl_value rfl (exec_ixW16 (k := k) rfl (by rfl) (by rfl) (by omega)) ?_) | (refine wl_stA (k := k) rfl rfl a5 (by rfl) (by rfl) (by omega) ?_; intro u6 q6 o6; refine Hid.out ?_))
          refine Hid.mk ?_
          have HL2 : Hid ((l ++ [n]).length = k + 1 ∧ (∀ i x, i < k + 1 → ps[i]? = some x → Lib.parseUintB 8 (lsT x) = .ok ((l ++ [n]).getD i 0)) ∧ (∀ m ∈ l ++ [n], m < 256)) := Hid.mk ⟨by rw [List.length_append, HL.out.1]; rfl, fun i y hi hy => by
            rw [List.getD_eq_getElem?_getD]
            by_cases e : i = k
            · subst e
              rw [HX.out] at hy
              injection hy with hy
              subst hy
              rw [List.getElem?_append_right (by rw [HL.out.1]; exact Nat.le_refl _), HL.out.1, Nat.sub_self]
              exact hn
            · rw [List.getElem?_append_left (by rw [HL.out.1]; omega), ← List.getD_eq_getElem?_getD]
              exact HL.out.2.1 i y (by omega) hy, fun m hm => by
            rcases List.mem_append.1 hm with h | h
            · exact HL.out.2.2 m h
            · simp at h
              omega⟩
          have HW2 : Hid (SAt u6 g5 40 17 (adV false (lsB (l ++ [n]))) ∧ SAt u6 g2 40 17 (adV false (fun _ => 0)) ∧ RowS u6 g ps ∧ Below w.heap.size w u6) := Hid.mk ⟨q6.congr (fun j _ => by
              unfold adV
              by_cases e : j < 1
              · rw [if_pos e, if_pos e]
              · rw [if_neg e, if_neg e, lsB_upd HL.out.1]), a2.only o6 (Ne.symm h52), fun j y hy => by
                have hc := ar j y hy
                have hgn : g ≠ g5 := HGN.out
                rw [World.cell?, o6.block g hgn]
                exact hc, hBc.trans (o6.below hg5w)⟩
          clear q6 o6 a5 a2 ar hBc hB5 HW HEW
          go_wp2_with fail
          go_roundg (4 - (k + 1))
          case rel => exact ⟨k + 1, l ++ [n], Hid.mk (by omega), by go_num, HL2, HW2⟩
          case measure => have := HK.out; omega
        · have HN : Hid (R = none) := Hid.mk (by rw [← HR.out]; exact four_bad HXM.out hn)
          go_wp2_with (first | (refine wl_value rfl (exec_adW0 rfl) ?_) | (refine st_stO rfl rfl isAddr (adV_one _ _) a2 (by rfl) (by rfl) ?_; intro u6 q6 o6; refine Hid.out ?_))
          refine Hid.mk ?_
          go_wp2_with fail
          exact bodyPost_ret (res_ct rfl isAddr q6 (by rfl) (by rfl)) rfl ⟨.inr ⟨HN.out, _, rfl⟩, hBc.trans (o6.below hg2)⟩
      · have hk2 : k = 4 := by omega
        subst hk2
        obtain ⟨a, b, c, d, rfl⟩ : ∃ a b c d, l = [a, b, c, d] := by
          have hl := HL.out.1
          match l, hl with
          | [a, b, c, d], _ => exact ⟨a, b, c, d, rfl⟩
        obtain ⟨x0, x1, x2, x3, hpe⟩ : ∃ x0 x1 x2 x3, ps = [x0, x1, x2, x3] := by
          have hl := H4.out
          match ps, hl with
          | [x0, x1, x2, x3], _ => exact ⟨x0, x1, x2, x3, rfl⟩
        have hF := four_eq (s := lsT s) (p0 := lsT x0) (p1 := lsT x1) (p2 := lsT x2) (p3 := lsT x3) (a := a) (b := b) (c := c) (d := d) (by rw [← HSP.out, hpe]; rfl) (HL.out.2.1 0 x0 (by decide) (by rw [hpe]; rfl)) (HL.out.2.1 1 x1 (by decide) (by rw [hpe]; rfl)) (HL.out.2.1 2 x2 (by decide) (by rw [hpe]; rfl)) (HL.out.2.1 3 x3 (by decide) (by rw [hpe]; rfl))
        rw [HR.out] at hF
        have hby : Byts 16 (lsB [a, b, c, d]) := lsB_byts HL.out.2.2
        have hfs : lsT (fourS (lsB [a, b, c, d])) = fourT a b c d := rfl
        obtain ⟨q, hq⟩ : ∃ q, decide (fourS (lsB [a, b, c, d]) = s) = q := ⟨_, rfl⟩
        have hF2 : R = if q = true then some [a, b, c, d] else none := by
          rw [hF, ← hq]
          by_cases e : fourT a b c d = lsT s
          · rw [if_pos e, if_pos (decide_eq_true (lsT_inj (by rw [hfs, e])))]
          · rw [if_neg e, if_neg (fun h => e (by rw [← hfs, of_decide_eq_true h]))]
        have HF := Hid.mk hF2
        have HQ := Hid.mk hq
        obtain ⟨A, hA⟩ : ∃ A, lsB [a, b, c, d] = A := ⟨_, rfl⟩
        have HAe := Hid.mk hA
        rw [hA] at HW HQ hby
        clear hF hF2 hq hfs hA hpe
        have HBW := Hid.mk HW.out.2.2.2
        have y2 := HW.out.2.1
        have HS5 : Hid (∀ X, Touch (fun k => k = g2) wI X → SAt X g5 40 17 (adV false A)) := Hid.mk (fun X hX => HW.out.1.tou hX h52)
        have HEX : Hid (∀ X, Touch (fun k => k = g2) wI X → Env X) := Hid.mk (fun X hX => hE.kept (HBW.out.trans (tou_below hX (fun k hk => by rw [hk]; exact hg2) HBW.out.size)))
        clear HW HEW HL
        go_upto_region 13 with fail
        refine wp_region3 (Touch (fun k => k = g2) wI) wI.heap.size
            [(g2, once (SC 17 (adV false (fun _ => 0))) 40 5 (SC 17 (adV false A)))]
            [kv (.agg (SC 17 (adV false A))), kv (.agg (SC 17 (adV false A))), kv (.string (fourS A)), kv (.string s), kv (.bool q), .val fun _ => True, kv (.bool q)]
            [.none, .none, .none, .none, .none, .base 0 1, .none]
            [some 37, some 38, some 39, some 40, some 41, none, some 3]
            [(0, .string s), (2, .pointer (some ⟨g2, 0, none⟩)), (5, .pointer (some ⟨g5, 0, none⟩))]
            [[], [], [.slot 1], [], [.slot 2, .slot 3], [.slot 0, .base 0 0], [.slot 4]]
            [.slot 6, .base 0 1] [37, 38, 39, 40, 41, 3]
            rfl (by kernel_rfl) ⟨rfl, rfl, rfl, trivial⟩ (Touch.refl _ _).drew (Nat.le_refl _) ⟨⟨SAt.lt y2, obIn y2⟩, trivial⟩ ⟨trivial, trivial⟩ (tou_G1 (Nat.le_refl _))
            ⟨
              (fun Q aq ww own hS hBg fr kn => .inl ⟨trivial, fun K hK => wp_value (look_st rfl isAddr (HS5.out ww hS) fr.2.2.1) (hK _ _ ⟨Touch.refl _ _, rfl⟩)⟩),
              (fun Q aq ww own hS hBg fr kn => .inl ⟨trivial, fun K hK => wp_value (look_st rfl isAddr (HS5.out ww hS) fr.2.2.1) (hK _ _ ⟨Touch.refl _ _, rfl⟩)⟩),
              (fun Q aq ww own hS hBg fr kn => .inl ⟨trivial, fun K hK => stepc enterW_T4 rfl (args1 kn.1) (text4_run false A ww hby (HEX.out ww hS)) (fun w' hb => hK _ _ ⟨touch_below hb, rfl⟩)⟩),
              (fun Q aq ww own hS hBg fr kn => .inl ⟨trivial, fun K hK => wp_value (exec_move rfl fr.1) (hK _ _ ⟨Touch.refl _ _, rfl⟩)⟩),
              (fun Q aq ww own hS hBg fr kn => .inl ⟨trivial, fun K hK => wp_value (exec_eqSb rfl kn.1 kn.2.1 HQ.out) (hK _ _ ⟨Touch.refl _ _, rfl⟩)⟩),
              (fun Q aq ww own hS hBg fr kn => .inl ⟨trivial, fun K hK => act_st7 rfl isAddr (adV_one _ _) fr.2.1 kn.1 (obAt kn.2.1) (fun w2 hg ho => hK _ _ ⟨⟨touch_only ho, obIn hg⟩, trivial⟩)⟩),
              (fun Q aq ww own hS hBg fr kn => .inl ⟨trivial, fun K hK => wp_value (exec_assign rfl kn.1) (hK _ _ ⟨Touch.refl _ _, rfl⟩)⟩),
              trivial⟩ ?_
        intro vs own Y3 hS3 hsz kn inj
        have e3 : vs 3 = .bool q := kn.1
        have z2 : SAt Y3 g2 40 17 (adV false A) := obAt kn.2.1
        clear kn inj hsz
        simp only [putAll, Act.put, List.setIfInBounds_toArray, List.set_cons_zero, List.set_cons_succ, e3]
        clear e3
        have hB3 : Below w.heap.size w Y3 := HBW.out.trans (tou_below hS3 (fun k hk => by rw [hk]; exact hg2) HBW.out.size)
        go_wp2_with fail
        refine bodyPost_ret (res_ct rfl isAddr z2 (by rfl) (by rfl)) rfl ⟨?_, hB3⟩
        have hF := HF.out
        cases q
        · exact .inr ⟨hF, _, rfl⟩
        · exact .inl ⟨_, hF, by rw [HAe.out]; rfl⟩
  · have h4b : ((ps.length : Int) != 4) = true := bne_iff_ne.2 (by omega)
    have HN : Hid (R = none) := Hid.mk (by rw [← HR.out]; exact four_not (by omega))
    clear hl1 hl2
    go_wp2_with (first | (refine wl_value rfl (exec_adW0 rfl) ?_) | (refine st_stO rfl rfl isAddr (adV_one _ _) p2 (by rfl) (by rfl) ?_; intro u6 q6 o6; refine Hid.out ?_))
    refine Hid.mk ?_
    go_wp2_with fail
    exact bodyPost_ret (res_ct rfl isAddr q6 (by rfl) (by rfl)) rfl ⟨.inr ⟨HN.out, _, rfl⟩, hBa.trans (o6.below hg2)⟩
end Go.Proofs.YtklgpmpmolphaaaDoor
