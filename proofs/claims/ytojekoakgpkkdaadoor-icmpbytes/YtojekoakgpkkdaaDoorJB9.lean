/-
  Own text. The document's side of messages: their checksum, their bytes, reading them.
-/
import Derived.Test.YtojekoakgpkkdaaDoorJB6
import Derived.Test.YtojekoakgpkkdaaDoorJB2
import Derived.Test.YtojekoakgpkkdaaDoorJB3
import Derived.Test.YtojekoakgpkkdaaDoorJB8
namespace Go.Proofs.YtojekoakgpkkdaaDoor
open Go.RowKit Go.Proofs
set_option maxRecDepth 100000
theorem en_aditref12_Valid (args : Array Value) (w : World) : (callFunc 61 args).run Tryd.prog w = .ok (.enter 61 args) w := by kernel_rfl
theorem en_aditref12_Pseudo (args : Array Value) (w : World) : (callFunc 67 args).run Tryd.prog w = .ok (.enter 67 args) w := by kernel_rfl
theorem en_aditref12_Sum (args : Array Value) (w : World) : (callFunc 68 args).run Tryd.prog w = .ok (.enter 68 args) w := by kernel_rfl
theorem en_aditref15_ends (args : Array Value) (w : World) : (callFunc 35 args).run Tryd.prog w = .ok (.enter 35 args) w := by kernel_rfl
theorem en_aditref12_Put (args : Array Value) (w : World) : (callFunc 36 args).run Tryd.prog w = .ok (.enter 36 args) w := by kernel_rfl
theorem en_aditref15_check (args : Array Value) (w : World) : (callFunc 37 args).run Tryd.prog w = .ok (.enter 37 args) w := by kernel_rfl
theorem en_aditref12_Get (args : Array Value) (w : World) : (callFunc 39 args).run Tryd.prog w = .ok (.enter 39 args) w := by kernel_rfl
theorem psH_t {v : Bool} (h : v = true) (b1 b2 : Nat → Int) (n : Nat) : psH v b1 b2 n = pseT v b1 v b2 58 n := if_pos h
theorem psH_f {v : Bool} (h : v = false) (b1 b2 : Nat → Int) (n : Nat) : psH v b1 b2 n = ByteArray.empty := if_neg (by rw [h]; decide)
def tw2 (A B : ByteArray) (j : Nat) : ByteArray := if j = 0 then A else B
theorem Sum2r (A B : ByteArray) (w : World) (g : Nat) (hg : w.heap[g]? = some (.cells #[.string A, .string B] 9 (0, 0))) (hs : A.size + B.size ≤ 1000000) : Calls Tryd.prog 68 #[.slice (some ⟨g, 0, none⟩) 2 2] w fun e w' => e = .returned (.int .i64 (sumT (A ++ B))) ∧ Below w.heap.size w w' := by
  have hj : joinB (tw2 A B) 2 = A ++ B := by simp [joinB, tw2]
  have hv : Strs w (.slice (some ⟨g, 0, none⟩) 2 2) 2 (tw2 A B) := strs_row' hg (fun j hj => by
    match j, hj with
    | 0, _ => rfl
    | 1, _ => rfl)
  have := rSum_run _ 2 _ w hv (by decide) (by rw [hj, ByteArray.size_append]; omega)
  rw [hj] at this
  exact this
theorem z2_size (a r : ByteArray) : (a ++ (⟨#[0, 0]⟩ : ByteArray) ++ r).size = a.size + 2 + r.size := by
  rw [ByteArray.size_append, ByteArray.size_append]
  rfl
/-- The document lays the same bytes. -/
theorem rbld {v : Bool} {b1 b2 : Nat → Int} (h1 : validF v b1 = true) (h2 : validF v b2 = true) {a : ByteArray} (ha : a.size = 2) (r : ByteArray) : a ++ putT (sumT (psH v b1 b2 (a ++ (⟨#[0, 0]⟩ : ByteArray) ++ r).size ++ (a ++ (⟨#[0, 0]⟩ : ByteArray) ++ r))).toNat 2 ++ r = laidT v b1 b2 a r := by
  unfold laidT
  rw [sum_doc h1 h2 _ (by omega) r, z2_size]
theorem rrd {v : Bool} {b1 b2 : Nat → Int} (h1 : validF v b1 = true) (h2 : validF v b2 = true) {b : ByteArray} (hb : 4 ≤ b.size) : sumT (psH v b1 b2 (b.extract 0 2 ++ (⟨#[0, 0]⟩ : ByteArray) ++ b.extract 4 b.size).size ++ (b.extract 0 2 ++ (⟨#[0, 0]⟩ : ByteArray) ++ b.extract 4 b.size)) = (getN (txt b) 2 2 : Int) ↔ b = laidT v b1 b2 (b.extract 0 2) (b.extract 4 b.size) := by
  have hs2 : (b.extract 0 2).size = 2 := cutP_size b 0 2 (by omega)
  have hs4 : (b.extract 4 b.size).size = b.size - 4 := cutP_size b 4 _ (Nat.le_refl _)
  rw [laid_iff v b1 b2 hb, sum_doc h1 h2 _ (by omega), z2_size, hs2, hs4, show 2 + 2 + (b.size - 4) = b.size by omega]
set_option linter.unusedSimpArgs false in
set_option maxHeartbeats 4000000 in
theorem rends_run (v1 : Bool) (b1 : Nat → Int) (v2 : Bool) (b2 : Nat → Int) (w : World) : Calls Tryd.prog 35 #[.agg (SC 17 (adV v1 b1)), .agg (SC 17 (adV v2 b2))] w fun e w' => e = .returned (.bool (endsB v1 b1 v2 b2)) ∧ Below w.heap.size w w' := by
  generalize hRV : (.bool (endsB v1 b1 v2 b2) : Value) = RV
  have HRV := Hid.mk hRV
  clear hRV
  go_enter Tryd.func35, Tryd.ntmps35
  go_wp2_with (refine wl_boxO (V := adV v1 b1) rfl rfl isAddr rfl ?_; intro g1 w1 hg1 s1 hB1; refine Hid.out ?_)
  refine Hid.mk ?_
  have hz2 : w.heap.size ≤ g1 := by omega
  have hbt3 := hB1
  clear hB1 hg1
  go_wp2_with (refine wl_boxO (V := adV v2 b2) rfl rfl isAddr rfl ?_; intro g4 w4 hg4 s4 hB4; refine Hid.out ?_)
  refine Hid.mk ?_
  have hn5 : g1 ≠ g4 := by have := s1.lt; omega
  have hz6 : w.heap.size ≤ g4 := by have := hbt3.size; omega
  have s7 := s1.kept hB4
  clear s1
  have hbt8 := hbt3.trans (hB4.mono hbt3.size)
  clear hbt3
  clear hB4 hg4
  go_wp2_with (refine wl_value rfl (look_st rfl isAddr s7 rfl) ?_; refine Hid.out ?_)
  refine Hid.mk ?_
  rcases Bool.eq_false_or_eq_true (validF v1 b1) with hb9 | hb9
  · have Hhb9 := Hid.mk hb9
    clear hb9
    have HC10 : Hid (Calls Tryd.prog 61 #[.agg (SC 17 (adV v1 b1))] w4 fun e w' => e = .returned (.bool true) ∧ Below w4.heap.size w4 w') := Hid.mk (by have h := rValid_run v1 b1 w4; rw [Hhb9.out] at h; exact h)
    go_wp2_with (refine wl_cal en_aditref12_Valid HC10 rfl rfl (args1 rfl) ?_; intro w11 hB11; refine Hid.out ?_)
    refine Hid.mk ?_
    clear HC10
    have s12 := s7.kept hB11
    clear s7
    have s13 := s4.kept hB11
    clear s4
    have hbt14 := hbt8.trans (hB11.mono hbt8.size)
    clear hbt8
    clear hB11
    go_wp2_with (refine wl_value rfl (look_st rfl isAddr s13 rfl) ?_; refine Hid.out ?_)
    refine Hid.mk ?_
    rcases Bool.eq_false_or_eq_true (validF v2 b2) with hb15 | hb15
    · have Hhb15 := Hid.mk hb15
      clear hb15
      have HC16 : Hid (Calls Tryd.prog 61 #[.agg (SC 17 (adV v2 b2))] w11 fun e w' => e = .returned (.bool true) ∧ Below w11.heap.size w11 w') := Hid.mk (by have h := rValid_run v2 b2 w11; rw [Hhb15.out] at h; exact h)
      go_wp2_with (refine wl_cal en_aditref12_Valid HC16 rfl rfl (args1 rfl) ?_; intro w17 hB17; refine Hid.out ?_)
      refine Hid.mk ?_
      clear HC16
      have s18 := s12.kept hB17
      clear s12
      have s19 := s13.kept hB17
      clear s13
      have hbt20 := hbt14.trans (hB17.mono hbt14.size)
      clear hbt14
      clear hB17
      go_wp2_with (refine wl_value rfl (exec_fad0 rfl rfl) ?_; refine Hid.out ?_)
      refine Hid.mk ?_
      rcases Bool.eq_false_or_eq_true (v1) with hb21 | hb21
      · have Hhb21 := Hid.mk hb21
        clear hb21
        go_wp2_with (refine wl_value rfl (kn_ (c := true) Hhb21 (exec_ld rfl rfl (ldB (SAt.at s18 0 (by decide))))) ?_; refine Hid.out ?_)
        refine Hid.mk ?_
        go_wp2_with (refine wl_value rfl (exec_fad0 rfl rfl) ?_; refine Hid.out ?_)
        refine Hid.mk ?_
        rcases Bool.eq_false_or_eq_true (v2) with hb22 | hb22
        · have Hhb22 := Hid.mk hb22
          clear hb22
          go_wp2_with (refine wl_value rfl (kn_ (c := true) Hhb22 (exec_ld rfl rfl (ldB (SAt.at s19 0 (by decide))))) ?_; refine Hid.out ?_)
          refine Hid.mk ?_
          have HK23 : Hid ((true == true) = true) := Hid.mk rfl
          go_wp2_with (refine wl_value rfl (kn_ (c := true) HK23 (cmp_eqB (m := true) (n := true) rfl rfl rfl)) ?_; refine Hid.out ?_)
          refine Hid.mk ?_
          go_wp2_with fail
          have hv : (endsB v1 b1 v2 b2) = true := by unfold endsB; (try simp only [Hhb9.out, Hhb15.out, HK23.out]) <;> simp [Hhb9.out, Hhb15.out, HK23.out, Hhb21.out, Hhb22.out]
          go_ret
          exact ⟨Eq.trans (rfl : _ = Ending.returned (.bool true)) (by rw [← HRV.out, hv]), hbt20⟩
        · have Hhb22 := Hid.mk hb22
          clear hb22
          go_wp2_with (refine wl_value rfl (kn_ (c := false) Hhb22 (exec_ld rfl rfl (ldB (SAt.at s19 0 (by decide))))) ?_; refine Hid.out ?_)
          refine Hid.mk ?_
          have HK24 : Hid ((true == false) = false) := Hid.mk rfl
          go_wp2_with (refine wl_value rfl (kn_ (c := false) HK24 (cmp_eqB (m := true) (n := false) rfl rfl rfl)) ?_; refine Hid.out ?_)
          refine Hid.mk ?_
          go_wp2_with fail
          have hv : (endsB v1 b1 v2 b2) = false := by unfold endsB; (try simp only [Hhb9.out, Hhb15.out, HK24.out]) <;> simp [Hhb9.out, Hhb15.out, HK24.out, Hhb21.out, Hhb22.out]
          go_ret
          exact ⟨Eq.trans (rfl : _ = Ending.returned (.bool false)) (by rw [← HRV.out, hv]), hbt20⟩
      · have Hhb21 := Hid.mk hb21
        clear hb21
        go_wp2_with (refine wl_value rfl (kn_ (c := false) Hhb21 (exec_ld rfl rfl (ldB (SAt.at s18 0 (by decide))))) ?_; refine Hid.out ?_)
        refine Hid.mk ?_
        go_wp2_with (refine wl_value rfl (exec_fad0 rfl rfl) ?_; refine Hid.out ?_)
        refine Hid.mk ?_
        rcases Bool.eq_false_or_eq_true (v2) with hb25 | hb25
        · have Hhb25 := Hid.mk hb25
          clear hb25
          go_wp2_with (refine wl_value rfl (kn_ (c := true) Hhb25 (exec_ld rfl rfl (ldB (SAt.at s19 0 (by decide))))) ?_; refine Hid.out ?_)
          refine Hid.mk ?_
          have HK26 : Hid ((false == true) = false) := Hid.mk rfl
          go_wp2_with (refine wl_value rfl (kn_ (c := false) HK26 (cmp_eqB (m := false) (n := true) rfl rfl rfl)) ?_; refine Hid.out ?_)
          refine Hid.mk ?_
          go_wp2_with fail
          have hv : (endsB v1 b1 v2 b2) = false := by unfold endsB; (try simp only [Hhb9.out, Hhb15.out, HK26.out]) <;> simp [Hhb9.out, Hhb15.out, HK26.out, Hhb21.out, Hhb25.out]
          go_ret
          exact ⟨Eq.trans (rfl : _ = Ending.returned (.bool false)) (by rw [← HRV.out, hv]), hbt20⟩
        · have Hhb25 := Hid.mk hb25
          clear hb25
          go_wp2_with (refine wl_value rfl (kn_ (c := false) Hhb25 (exec_ld rfl rfl (ldB (SAt.at s19 0 (by decide))))) ?_; refine Hid.out ?_)
          refine Hid.mk ?_
          have HK27 : Hid ((false == false) = true) := Hid.mk rfl
          go_wp2_with (refine wl_value rfl (kn_ (c := true) HK27 (cmp_eqB (m := false) (n := false) rfl rfl rfl)) ?_; refine Hid.out ?_)
          refine Hid.mk ?_
          go_wp2_with fail
          have hv : (endsB v1 b1 v2 b2) = true := by unfold endsB; (try simp only [Hhb9.out, Hhb15.out, HK27.out]) <;> simp [Hhb9.out, Hhb15.out, HK27.out, Hhb21.out, Hhb25.out]
          go_ret
          exact ⟨Eq.trans (rfl : _ = Ending.returned (.bool true)) (by rw [← HRV.out, hv]), hbt20⟩
    · have Hhb15 := Hid.mk hb15
      clear hb15
      have HC28 : Hid (Calls Tryd.prog 61 #[.agg (SC 17 (adV v2 b2))] w11 fun e w' => e = .returned (.bool false) ∧ Below w11.heap.size w11 w') := Hid.mk (by have h := rValid_run v2 b2 w11; rw [Hhb15.out] at h; exact h)
      go_wp2_with (refine wl_cal en_aditref12_Valid HC28 rfl rfl (args1 rfl) ?_; intro w29 hB29; refine Hid.out ?_)
      refine Hid.mk ?_
      clear HC28
      have s30 := s12.kept hB29
      clear s12
      have s31 := s13.kept hB29
      clear s13
      have hbt32 := hbt14.trans (hB29.mono hbt14.size)
      clear hbt14
      clear hB29
      go_wp2_with fail
      have hv : (endsB v1 b1 v2 b2) = false := by unfold endsB; simp [Hhb9.out, Hhb15.out]
      go_ret
      exact ⟨Eq.trans (rfl : _ = Ending.returned (.bool false)) (by rw [← HRV.out, hv]), hbt32⟩
  · have Hhb9 := Hid.mk hb9
    clear hb9
    have HC33 : Hid (Calls Tryd.prog 61 #[.agg (SC 17 (adV v1 b1))] w4 fun e w' => e = .returned (.bool false) ∧ Below w4.heap.size w4 w') := Hid.mk (by have h := rValid_run v1 b1 w4; rw [Hhb9.out] at h; exact h)
    go_wp2_with (refine wl_cal en_aditref12_Valid HC33 rfl rfl (args1 rfl) ?_; intro w34 hB34; refine Hid.out ?_)
    refine Hid.mk ?_
    clear HC33
    have s35 := s7.kept hB34
    clear s7
    have s36 := s4.kept hB34
    clear s4
    have hbt37 := hbt8.trans (hB34.mono hbt8.size)
    clear hbt8
    clear hB34
    go_wp2_with (refine wl_value rfl (look_st rfl isAddr s36 rfl) ?_; refine Hid.out ?_)
    refine Hid.mk ?_
    rcases Bool.eq_false_or_eq_true (validF v2 b2) with hb38 | hb38
    · have Hhb38 := Hid.mk hb38
      clear hb38
      have HC39 : Hid (Calls Tryd.prog 61 #[.agg (SC 17 (adV v2 b2))] w34 fun e w' => e = .returned (.bool true) ∧ Below w34.heap.size w34 w') := Hid.mk (by have h := rValid_run v2 b2 w34; rw [Hhb38.out] at h; exact h)
      go_wp2_with (refine wl_cal en_aditref12_Valid HC39 rfl rfl (args1 rfl) ?_; intro w40 hB40; refine Hid.out ?_)
      refine Hid.mk ?_
      clear HC39
      have s41 := s35.kept hB40
      clear s35
      have s42 := s36.kept hB40
      clear s36
      have hbt43 := hbt37.trans (hB40.mono hbt37.size)
      clear hbt37
      clear hB40
      go_wp2_with fail
      have hv : (endsB v1 b1 v2 b2) = false := by unfold endsB; simp [Hhb9.out, Hhb38.out]
      go_ret
      exact ⟨Eq.trans (rfl : _ = Ending.returned (.bool false)) (by rw [← HRV.out, hv]), hbt43⟩
    · have Hhb38 := Hid.mk hb38
      clear hb38
      have HC44 : Hid (Calls Tryd.prog 61 #[.agg (SC 17 (adV v2 b2))] w34 fun e w' => e = .returned (.bool false) ∧ Below w34.heap.size w34 w') := Hid.mk (by have h := rValid_run v2 b2 w34; rw [Hhb38.out] at h; exact h)
      go_wp2_with (refine wl_cal en_aditref12_Valid HC44 rfl rfl (args1 rfl) ?_; intro w45 hB45; refine Hid.out ?_)
      refine Hid.mk ?_
      clear HC44
      have s46 := s35.kept hB45
      clear s35
      have s47 := s36.kept hB45
      clear s36
      have hbt48 := hbt37.trans (hB45.mono hbt37.size)
      clear hbt37
      clear hB45
      go_wp2_with fail
      have hv : (endsB v1 b1 v2 b2) = false := by unfold endsB; simp [Hhb9.out, Hhb38.out]
      go_ret
      exact ⟨Eq.trans (rfl : _ = Ending.returned (.bool false)) (by rw [← HRV.out, hv]), hbt48⟩
set_option linter.unusedSimpArgs false in
set_option maxHeartbeats 4000000 in
theorem rcheck_run (v : Bool) (b1 b2 : Nat → Int) (T : ByteArray) (w : World) (hb1 : Byts 16 b1) (hb2 : Byts 16 b2) (h1 : validF v b1 = true) (h2 : validF v b2 = true) (hs : T.size ≤ 65535) : Calls Tryd.prog 37 #[.agg (SC 17 (adV v b1)), .agg (SC 17 (adV v b2)), .string T] w fun e w' => e = .returned (.int .i64 (sumT (psH v b1 b2 T.size ++ T))) ∧ Below w.heap.size w w' := by
  generalize hRV : (.int .i64 (sumT (psH v b1 b2 T.size ++ T)) : Value) = RV
  have HRV := Hid.mk hRV
  clear hRV
  have HS := Hid.mk hs
  have HV := Hid.mk (And.intro h1 h2)
  clear hs h1 h2
  go_enter Tryd.func37, Tryd.ntmps37
  go_wp2_with (refine wl_boxO (V := adV v b1) rfl rfl isAddr rfl ?_; intro g1 w1 hg1 s1 hB1; refine Hid.out ?_)
  refine Hid.mk ?_
  have hz2 : w.heap.size ≤ g1 := by omega
  have hbt3 := hB1
  clear hB1 hg1
  go_wp2_with (refine wl_boxO (V := adV v b2) rfl rfl isAddr rfl ?_; intro g4 w4 hg4 s4 hB4; refine Hid.out ?_)
  refine Hid.mk ?_
  have hn5 : g1 ≠ g4 := by have := s1.lt; omega
  have hz6 : w.heap.size ≤ g4 := by have := hbt3.size; omega
  have s7 := s1.kept hB4
  clear s1
  have hbt8 := hbt3.trans (hB4.mono hbt3.size)
  clear hbt3
  clear hB4 hg4
  go_wp2_with (refine wl_value rfl (exec_fad0 rfl rfl) ?_; refine Hid.out ?_)
  refine Hid.mk ?_
  rcases Bool.eq_false_or_eq_true (v) with hb9 | hb9
  · have Hhb9 := Hid.mk hb9
    clear hb9
    go_wp2_with (refine wl_value rfl (kn_ (c := true) Hhb9 (exec_ld rfl rfl (ldB (SAt.at s7 0 (by decide))))) ?_; refine Hid.out ?_)
    refine Hid.mk ?_
    go_wp2_with (refine wl_value rfl (look_st rfl isAddr s7 rfl) ?_; refine Hid.out ?_)
    refine Hid.mk ?_
    go_wp2_with (refine wl_value rfl (look_st rfl isAddr s4 rfl) ?_; refine Hid.out ?_)
    refine Hid.mk ?_
    go_wp2_with (refine wl_value rfl (exec_lenS rfl rfl) ?_; refine Hid.out ?_)
    refine Hid.mk ?_
    have HZ10 := Hid.mk (psH_size HV.out.1 HV.out.2 T.size)
    have HC11 : Hid (Calls Tryd.prog 67 #[.agg (SC 17 (adV v b1)), .agg (SC 17 (adV v b2)), .int .i64 58, .int .i64 (T.size : Int)] w4 fun e w' => e = .returned (.string (psH v b1 b2 T.size)) ∧ Below w4.heap.size w4 w') := Hid.mk (by have h := rPseudo_run v b1 v b2 58 T.size w4 hb1 hb2 ⟨HV.out.1, HV.out.2, rfl, by decide, by decide, by omega, by have := HS.out; omega⟩; rw [← psH_t Hhb9.out] at h; exact h)
    go_wp2_with (refine wl_cal en_aditref12_Pseudo HC11 rfl rfl (args4 rfl rfl rfl rfl) ?_; intro w12 hB12; refine Hid.out ?_)
    refine Hid.mk ?_
    clear HC11
    have s13 := s7.kept hB12
    clear s7
    have s14 := s4.kept hB12
    clear s4
    have hbt15 := hbt8.trans (hB12.mono hbt8.size)
    clear hbt8
    clear hB12
    go_wp2_with (refine wl_bsT2 (s := psH v b1 b2 T.size) (t := T) rfl rfl rfl rfl ?_; intro g16 w16 hg16 hr16 hB16; refine Hid.out ?_)
    refine Hid.mk ?_
    clear hg16
    have s17 := s13.kept hB16
    clear s13
    have s18 := s14.kept hB16
    clear s14
    have hbt19 := hbt15.trans (hB16.mono hbt15.size)
    clear hbt15
    clear hB16
    have HZ20 := Hid.mk (sumT_b ((psH v b1 b2 T.size) ++ T))
    have HC21 : Hid (Calls Tryd.prog 68 #[.slice (some ⟨g16, 0, none⟩) 2 2] w16 fun e w' => e = .returned (.int .i64 (sumT ((psH v b1 b2 T.size) ++ T))) ∧ Below w16.heap.size w16 w') := Hid.mk (Sum2r (psH v b1 b2 T.size) T w16 g16 hr16 (by have := HS.out; have := HZ10.out; have := HZ20.out; omega))
    go_wp2_with (refine wl_cal en_aditref12_Sum HC21 rfl rfl (args1 rfl) ?_; intro w22 hB22; refine Hid.out ?_)
    refine Hid.mk ?_
    clear HC21
    have s23 := s17.kept hB22
    clear s17
    have s24 := s18.kept hB22
    clear s18
    have hbt25 := hbt19.trans (hB22.mono hbt19.size)
    clear hbt19
    clear hB22
    go_wp2_with fail
    go_ret
    exact ⟨Eq.trans (rfl : _ = Ending.returned (.int .i64 (sumT ((psH v b1 b2 T.size) ++ T)))) (by rw [← HRV.out]), hbt25⟩
  · have Hhb9 := Hid.mk hb9
    clear hb9
    go_wp2_with (refine wl_value rfl (kn_ (c := false) Hhb9 (exec_ld rfl rfl (ldB (SAt.at s7 0 (by decide))))) ?_; refine Hid.out ?_)
    refine Hid.mk ?_
    go_wp2_with (refine wl_bsT2 (s := ByteArray.empty) (t := T) rfl rfl rfl rfl ?_; intro g26 w26 hg26 hr26 hB26; refine Hid.out ?_)
    refine Hid.mk ?_
    clear hg26
    have s27 := s7.kept hB26
    clear s7
    have s28 := s4.kept hB26
    clear s4
    have hbt29 := hbt8.trans (hB26.mono hbt8.size)
    clear hbt8
    clear hB26
    have HZ30 := Hid.mk (sumT_b (ByteArray.empty ++ T))
    have HC31 : Hid (Calls Tryd.prog 68 #[.slice (some ⟨g26, 0, none⟩) 2 2] w26 fun e w' => e = .returned (.int .i64 (sumT (ByteArray.empty ++ T))) ∧ Below w26.heap.size w26 w') := Hid.mk (Sum2r ByteArray.empty T w26 g26 hr26 (by have := HS.out; have := HZ30.out; have he0 : ByteArray.empty.size = 0 := rfl; omega))
    go_wp2_with (refine wl_cal en_aditref12_Sum HC31 rfl rfl (args1 rfl) ?_; intro w32 hB32; refine Hid.out ?_)
    refine Hid.mk ?_
    clear HC31
    have s33 := s27.kept hB32
    clear s27
    have s34 := s28.kept hB32
    clear s28
    have hbt35 := hbt29.trans (hB32.mono hbt29.size)
    clear hbt29
    clear hB32
    go_wp2_with fail
    have hP : psH v b1 b2 T.size = ByteArray.empty := psH_f Hhb9.out b1 b2 T.size
    go_ret
    exact ⟨Eq.trans (rfl : _ = Ending.returned (.int .i64 (sumT (ByteArray.empty ++ T)))) (by rw [← HRV.out, hP]), hbt35⟩
theorem msOk_iff {m : Ms} : msOk m = true ↔ (0 ≤ m.typ ∧ m.typ ≤ 255) ∧ 0 ≤ m.code ∧ m.code ≤ 255 := by
  unfold msOk
  rw [Bool.and_eq_true, upB_iff, upB_iff]
set_option linter.unusedSimpArgs false in
set_option maxHeartbeats 4000000 in
theorem dBuild_run (v1 : Bool) (b1 : Nat → Int) (v2 : Bool) (b2 : Nat → Int) (m : Ms) (w : World) (hb1 : Byts 16 b1) (hb2 : Byts 16 b2) (hr : m.rest < 4294967296) : Calls Tryd.prog 10 #[.agg (SC 17 (adV v1 b1)), .agg (SC 17 (adV v2 b2)), .agg (SC 4 (msV m))] w fun e w' => e = .returned (.tuple #[.string (mBldT v1 b1 v2 b2 m), .int .i64 (mBldE v1 b1 v2 b2 m)]) ∧ Below w.heap.size w w' := by
  generalize hRV : (.tuple #[.string (mBldT v1 b1 v2 b2 m), .int .i64 (mBldE v1 b1 v2 b2 m)] : Value) = RV
  have HRV := Hid.mk hRV
  clear hRV
  have HR := Hid.mk hr
  clear hr
  have HZ0 : Hid ((⟨#[0, 0]⟩ : ByteArray).size = 2) := Hid.mk rfl
  go_enter Tryd.func10, Tryd.ntmps10
  go_wp2_with (refine wl_boxO (V := adV v1 b1) rfl rfl isAddr rfl ?_; intro g1 w1 hg1 s1 hB1; refine Hid.out ?_)
  refine Hid.mk ?_
  have hz2 : w.heap.size ≤ g1 := by omega
  have hbt3 := hB1
  clear hB1 hg1
  go_wp2_with (refine wl_boxO (V := adV v2 b2) rfl rfl isAddr rfl ?_; intro g4 w4 hg4 s4 hB4; refine Hid.out ?_)
  refine Hid.mk ?_
  have hn5 : g1 ≠ g4 := by have := s1.lt; omega
  have hz6 : w.heap.size ≤ g4 := by have := hbt3.size; omega
  have s7 := s1.kept hB4
  clear s1
  have hbt8 := hbt3.trans (hB4.mono hbt3.size)
  clear hbt3
  clear hB4 hg4
  go_wp2_with (refine wl_boxO (V := msV m) rfl rfl isMs rfl ?_; intro g9 w9 hg9 s9 hB9; refine Hid.out ?_)
  refine Hid.mk ?_
  have hn10 : g1 ≠ g9 := by have := s7.lt; omega
  have hn11 : g4 ≠ g9 := by have := s4.lt; omega
  have hz12 : w.heap.size ≤ g9 := by have := hbt8.size; omega
  have s13 := s7.kept hB9
  clear s7
  have s14 := s4.kept hB9
  clear s4
  have hbt15 := hbt8.trans (hB9.mono hbt8.size)
  clear hbt8
  clear hB9 hg9
  go_wp2_with (refine wl_value rfl (look_st rfl isAddr s13 rfl) ?_; refine Hid.out ?_)
  refine Hid.mk ?_
  go_wp2_with (refine wl_value rfl (look_st rfl isAddr s14 rfl) ?_; refine Hid.out ?_)
  refine Hid.mk ?_
  rcases Bool.eq_false_or_eq_true (endsB v1 b1 v2 b2) with hb16 | hb16
  · have Hhb16 := Hid.mk hb16
    clear hb16
    have HV2 := Hid.mk (ends_iff.1 Hhb16.out)
    have HV3 : Hid (validF v1 b2 = true) := Hid.mk (by rw [HV2.out.2.2]; exact HV2.out.2.1)
    have HC17 : Hid (Calls Tryd.prog 35 #[.agg (SC 17 (adV v1 b1)), .agg (SC 17 (adV v2 b2))] w9 fun e w' => e = .returned (.bool true) ∧ Below w9.heap.size w9 w') := Hid.mk (by have h := rends_run v1 b1 v2 b2 w9; rw [Hhb16.out] at h; exact h)
    go_wp2_with (refine wl_cal en_aditref15_ends HC17 rfl rfl (args2 rfl rfl) ?_; intro w18 hB18; refine Hid.out ?_)
    refine Hid.mk ?_
    clear HC17
    have s19 := s13.kept hB18
    clear s13
    have s20 := s14.kept hB18
    clear s14
    have s21 := s9.kept hB18
    clear s9
    have hbt22 := hbt15.trans (hB18.mono hbt15.size)
    clear hbt15
    clear hB18
    go_wp2_with (refine wl_value rfl (exec_fms 0 (by decide) rfl rfl) ?_; refine Hid.out ?_)
    refine Hid.mk ?_
    go_wp2_with (refine wl_value rfl (exec_ld rfl rfl (ldI (SAt.at s21 0 (by decide)))) ?_; refine Hid.out ?_)
    refine Hid.mk ?_
    rcases Bool.eq_false_or_eq_true (decide (m.typ < 0)) with hb23 | hb23
    · have Hhb23 := Hid.mk hb23
      clear hb23
      have HDhb23 := Hid.mk (of_decide_eq_true Hhb23.out)
      go_wp2_with (refine wl_value rfl (kn_ (c := true) Hhb23 (cmp_lt (m := m.typ) (n := 0) rfl rfl rfl)) ?_; refine Hid.out ?_)
      refine Hid.mk ?_
      go_wp2_with fail
      have hE : mBldE v1 b1 v2 b2 m = 1 := by unfold mBldE; rw [if_neg (fun h => by have h2 := msOk_iff.1 h.2; have := HR.out; have := HZ0.out; have := HDhb23.out; omega)]
      have hT : mBldT v1 b1 v2 b2 m = ByteArray.empty := by unfold mBldT; rw [if_neg (by rw [hE]; decide)]
      refine bodyPost_ret (results_two rfl (by rfl) (by rfl)) rfl ?_
      exact ⟨Eq.trans (rfl : _ = Ending.returned (.tuple #[.string ByteArray.empty, .int .i64 1])) (by rw [← HRV.out, hE, hT]), hbt22⟩
    · have Hhb23 := Hid.mk hb23
      clear hb23
      have HDhb23 := Hid.mk (of_decide_eq_false Hhb23.out)
      go_wp2_with (refine wl_value rfl (kn_ (c := false) Hhb23 (cmp_lt (m := m.typ) (n := 0) rfl rfl rfl)) ?_; refine Hid.out ?_)
      refine Hid.mk ?_
      go_wp2_with (refine wl_value rfl (exec_fms 0 (by decide) rfl rfl) ?_; refine Hid.out ?_)
      refine Hid.mk ?_
      go_wp2_with (refine wl_value rfl (exec_ld rfl rfl (ldI (SAt.at s21 0 (by decide)))) ?_; refine Hid.out ?_)
      refine Hid.mk ?_
      rcases Bool.eq_false_or_eq_true (decide (255 < m.typ)) with hb24 | hb24
      · have Hhb24 := Hid.mk hb24
        clear hb24
        have HDhb24 := Hid.mk (of_decide_eq_true Hhb24.out)
        go_wp2_with (refine wl_value rfl (kn_ (c := true) Hhb24 (cmp_gt (m := m.typ) (n := 255) rfl rfl rfl)) ?_; refine Hid.out ?_)
        refine Hid.mk ?_
        go_wp2_with fail
        have hE : mBldE v1 b1 v2 b2 m = 1 := by unfold mBldE; rw [if_neg (fun h => by have h2 := msOk_iff.1 h.2; have := HR.out; have := HZ0.out; have := HDhb23.out; have := HDhb24.out; omega)]
        have hT : mBldT v1 b1 v2 b2 m = ByteArray.empty := by unfold mBldT; rw [if_neg (by rw [hE]; decide)]
        refine bodyPost_ret (results_two rfl (by rfl) (by rfl)) rfl ?_
        exact ⟨Eq.trans (rfl : _ = Ending.returned (.tuple #[.string ByteArray.empty, .int .i64 1])) (by rw [← HRV.out, hE, hT]), hbt22⟩
      · have Hhb24 := Hid.mk hb24
        clear hb24
        have HDhb24 := Hid.mk (of_decide_eq_false Hhb24.out)
        go_wp2_with (refine wl_value rfl (kn_ (c := false) Hhb24 (cmp_gt (m := m.typ) (n := 255) rfl rfl rfl)) ?_; refine Hid.out ?_)
        refine Hid.mk ?_
        go_wp2_with (refine wl_value rfl (exec_fms 1 (by decide) rfl rfl) ?_; refine Hid.out ?_)
        refine Hid.mk ?_
        go_wp2_with (refine wl_value rfl (exec_ld rfl rfl (ldI (SAt.at s21 1 (by decide)))) ?_; refine Hid.out ?_)
        refine Hid.mk ?_
        rcases Bool.eq_false_or_eq_true (decide (m.code < 0)) with hb25 | hb25
        · have Hhb25 := Hid.mk hb25
          clear hb25
          have HDhb25 := Hid.mk (of_decide_eq_true Hhb25.out)
          go_wp2_with (refine wl_value rfl (kn_ (c := true) Hhb25 (cmp_lt (m := m.code) (n := 0) rfl rfl rfl)) ?_; refine Hid.out ?_)
          refine Hid.mk ?_
          go_wp2_with fail
          have hE : mBldE v1 b1 v2 b2 m = 1 := by unfold mBldE; rw [if_neg (fun h => by have h2 := msOk_iff.1 h.2; have := HR.out; have := HZ0.out; have := HDhb23.out; have := HDhb24.out; have := HDhb25.out; omega)]
          have hT : mBldT v1 b1 v2 b2 m = ByteArray.empty := by unfold mBldT; rw [if_neg (by rw [hE]; decide)]
          refine bodyPost_ret (results_two rfl (by rfl) (by rfl)) rfl ?_
          exact ⟨Eq.trans (rfl : _ = Ending.returned (.tuple #[.string ByteArray.empty, .int .i64 1])) (by rw [← HRV.out, hE, hT]), hbt22⟩
        · have Hhb25 := Hid.mk hb25
          clear hb25
          have HDhb25 := Hid.mk (of_decide_eq_false Hhb25.out)
          go_wp2_with (refine wl_value rfl (kn_ (c := false) Hhb25 (cmp_lt (m := m.code) (n := 0) rfl rfl rfl)) ?_; refine Hid.out ?_)
          refine Hid.mk ?_
          go_wp2_with (refine wl_value rfl (exec_fms 1 (by decide) rfl rfl) ?_; refine Hid.out ?_)
          refine Hid.mk ?_
          go_wp2_with (refine wl_value rfl (exec_ld rfl rfl (ldI (SAt.at s21 1 (by decide)))) ?_; refine Hid.out ?_)
          refine Hid.mk ?_
          rcases Bool.eq_false_or_eq_true (decide (255 < m.code)) with hb26 | hb26
          · have Hhb26 := Hid.mk hb26
            clear hb26
            have HDhb26 := Hid.mk (of_decide_eq_true Hhb26.out)
            go_wp2_with (refine wl_value rfl (kn_ (c := true) Hhb26 (cmp_gt (m := m.code) (n := 255) rfl rfl rfl)) ?_; refine Hid.out ?_)
            refine Hid.mk ?_
            go_wp2_with fail
            have hE : mBldE v1 b1 v2 b2 m = 1 := by unfold mBldE; rw [if_neg (fun h => by have h2 := msOk_iff.1 h.2; have := HR.out; have := HZ0.out; have := HDhb23.out; have := HDhb24.out; have := HDhb25.out; have := HDhb26.out; omega)]
            have hT : mBldT v1 b1 v2 b2 m = ByteArray.empty := by unfold mBldT; rw [if_neg (by rw [hE]; decide)]
            refine bodyPost_ret (results_two rfl (by rfl) (by rfl)) rfl ?_
            exact ⟨Eq.trans (rfl : _ = Ending.returned (.tuple #[.string ByteArray.empty, .int .i64 1])) (by rw [← HRV.out, hE, hT]), hbt22⟩
          · have Hhb26 := Hid.mk hb26
            clear hb26
            have HDhb26 := Hid.mk (of_decide_eq_false Hhb26.out)
            go_wp2_with (refine wl_value rfl (kn_ (c := false) Hhb26 (cmp_gt (m := m.code) (n := 255) rfl rfl rfl)) ?_; refine Hid.out ?_)
            refine Hid.mk ?_
            go_wp2_with (refine wl_value rfl (exec_fms 3 (by decide) rfl rfl) ?_; refine Hid.out ?_)
            refine Hid.mk ?_
            go_wp2_with (refine wl_value rfl (exec_ld rfl rfl (ldS (SAt.at s21 3 (by decide)))) ?_; refine Hid.out ?_)
            refine Hid.mk ?_
            go_wp2_with (refine wl_value rfl (exec_lenS rfl rfl) ?_; refine Hid.out ?_)
            refine Hid.mk ?_
            rcases Bool.eq_false_or_eq_true (decide (65507 < (m.body.size : Int))) with hb27 | hb27
            · have Hhb27 := Hid.mk hb27
              clear hb27
              have HDhb27 := Hid.mk (of_decide_eq_true Hhb27.out)
              go_wp2_with (refine wl_value rfl (kn_ (c := true) Hhb27 (cmp_gt (m := (m.body.size : Int)) (n := 65507) rfl rfl rfl)) ?_; refine Hid.out ?_)
              refine Hid.mk ?_
              go_wp2_with fail
              have hq : 65507 < m.body.size := (by have := HR.out; have := HZ0.out; have := HDhb23.out; have := HDhb24.out; have := HDhb25.out; have := HDhb26.out; have := HDhb27.out; omega)
              have hE : mBldE v1 b1 v2 b2 m = 75 := by unfold mBldE; rw [if_pos ⟨Hhb16.out, msOk_iff.2 (by have := HR.out; have := HZ0.out; have := HDhb23.out; have := HDhb24.out; have := HDhb25.out; have := HDhb26.out; have := HDhb27.out; omega)⟩, if_pos hq]
              have hT : mBldT v1 b1 v2 b2 m = ByteArray.empty := by unfold mBldT; rw [if_neg (by rw [hE]; decide)]
              refine bodyPost_ret (results_two rfl (by rfl) (by rfl)) rfl ?_
              exact ⟨Eq.trans (rfl : _ = Ending.returned (.tuple #[.string ByteArray.empty, .int .i64 75])) (by rw [← HRV.out, hE, hT]), hbt22⟩
            · have Hhb27 := Hid.mk hb27
              clear hb27
              have HDhb27 := Hid.mk (of_decide_eq_false Hhb27.out)
              go_wp2_with (refine wl_value rfl (kn_ (c := false) Hhb27 (cmp_gt (m := (m.body.size : Int)) (n := 65507) rfl rfl rfl)) ?_; refine Hid.out ?_)
              refine Hid.mk ?_
              obtain ⟨N28, hN28⟩ : ∃ n : Nat, n = m.typ.toNat := ⟨_, rfl⟩
              have HN28 := Hid.mk hN28
              clear hN28
              have HZ29 := Hid.mk (putT_size N28 1)
              obtain ⟨N30, hN30⟩ : ∃ n : Nat, n = m.code.toNat := ⟨_, rfl⟩
              have HN30 := Hid.mk hN30
              clear hN30
              go_upto_region 6 with fail
              refine wp_region_cut 7 rfl (by kernel_rfl) (any_steps (Below w18.heap.size w18) (fun v v' => Below v.heap.size v v') (fun j vv _ => vv = ([.pointer (some ⟨g9, 0, none⟩), .int .i64 m.typ, .int .u64 ((N28 : Nat) : Int), .string (putT N28 1), .pointer (some ⟨g9, 1, none⟩), .int .i64 m.code, .int .u64 ((N30 : Nat) : Int)] : List Value).getD j undef)
                  [41, 42, 43, 44, 45, 46, 47]
                  [(5, .pointer (some ⟨g9, 0, none⟩))]
                  [[], [0], [1], [2], [], [4], [5]]
                  (by kernel_rfl) ⟨rfl, trivial⟩ (Below.drew (Below.refl _ _)) (fun v v' h hb => h.trans (hb.mono h.size)) (fun _ _ _ _ h _ => h)
                  ⟨
                  (fun QQ aa ww hS fr kn => ⟨trivial, fun K hK => wp_value (exec_fms 0 (by decide) rfl fr.1) (hK _ _ rfl (Below.refl _ _))⟩),
                  (fun QQ aa ww hS fr kn => ⟨trivial, fun K hK => wp_value (exec_ld rfl kn.1 (ldI (SAt.at (SAt.kept s21 hS) 0 (by decide)))) (hK _ _ rfl (Below.refl _ _))⟩),
                  (fun QQ aa ww hS fr kn => ⟨trivial, fun K hK => wp_value (cvN HN28 (exec_cvIU64 (m := m.typ) rfl kn.1 (by have := HR.out; have := HZ0.out; have := HDhb23.out; have := HDhb24.out; have := HDhb25.out; have := HDhb26.out; have := HDhb27.out; have := HN28.out; omega) (by have := HR.out; have := HZ0.out; have := HDhb23.out; have := HDhb24.out; have := HDhb25.out; have := HDhb26.out; have := HDhb27.out; have := HN28.out; omega))) (hK _ _ rfl (Below.refl _ _))⟩),
                  (fun QQ aa ww hS fr kn => ⟨trivial, fun K hK => stepc en_aditref12_Put rfl (args2 kn.1 rfl) (rPut_run N28 1 ww (by have := HR.out; have := HZ0.out; have := HDhb23.out; have := HDhb24.out; have := HDhb25.out; have := HDhb26.out; have := HDhb27.out; have := HN28.out; have := HZ29.out; omega) (by decide) (by decide)) (fun w' hb => hK _ _ rfl hb)⟩),
                  (fun QQ aa ww hS fr kn => ⟨trivial, fun K hK => wp_value (exec_fms 1 (by decide) rfl fr.1) (hK _ _ rfl (Below.refl _ _))⟩),
                  (fun QQ aa ww hS fr kn => ⟨trivial, fun K hK => wp_value (exec_ld rfl kn.1 (ldI (SAt.at (SAt.kept s21 hS) 1 (by decide)))) (hK _ _ rfl (Below.refl _ _))⟩),
                  (fun QQ aa ww hS fr kn => ⟨trivial, fun K hK => wp_value (cvN HN30 (exec_cvIU64 (m := m.code) rfl kn.1 (by have := HR.out; have := HZ0.out; have := HDhb23.out; have := HDhb24.out; have := HDhb25.out; have := HDhb26.out; have := HDhb27.out; have := HN28.out; have := HZ29.out; have := HN30.out; omega) (by have := HR.out; have := HZ0.out; have := HDhb23.out; have := HDhb24.out; have := HDhb25.out; have := HDhb26.out; have := HDhb27.out; have := HN28.out; have := HZ29.out; have := HN30.out; omega))) (hK _ _ rfl (Below.refl _ _))⟩),
                  trivial⟩ ?_)
              intro vs w31 hB31 kn
              have e44 : vs 44 = .string (putT N28 1) := kn 3 (by decide)
              have e47 : vs 47 = .int .u64 ((N30 : Nat) : Int) := kn 6 (by decide)
              clear kn
              show wpList Tryd.prog _ _ (_ :: _ :: _ :: []) _ _
              simp only [putAll, Act.put, List.setIfInBounds_toArray, List.set_cons_zero, List.set_cons_succ, e44, e47]
              clear e44 e47
              have s32 := s19.kept hB31
              clear s19
              have s33 := s20.kept hB31
              clear s20
              have s34 := s21.kept hB31
              clear s21
              have hbt35 := hbt22.trans (hB31.mono hbt22.size)
              clear hbt22
              clear hB31
              have HZ36 := Hid.mk (putT_size N30 1)
              have HC37 : Hid (Calls Tryd.prog 36 #[.int .u64 ((N30 : Nat) : Int), .int .i64 1] w31 fun e w' => e = .returned (.string (putT N30 1)) ∧ Below w31.heap.size w31 w') := Hid.mk (rPut_run N30 1 w31 (by have := HR.out; have := HZ0.out; have := HDhb23.out; have := HDhb24.out; have := HDhb25.out; have := HDhb26.out; have := HDhb27.out; have := HN28.out; have := HZ29.out; have := HN30.out; have := HZ36.out; omega) (by decide) (by decide))
              go_wp2_with (refine wl_cal en_aditref12_Put HC37 rfl rfl (args2 rfl rfl) ?_; intro w38 hB38; refine Hid.out ?_)
              refine Hid.mk ?_
              clear HC37
              have s39 := s32.kept hB38
              clear s32
              have s40 := s33.kept hB38
              clear s33
              have s41 := s34.kept hB38
              clear s34
              have hbt42 := hbt35.trans (hB38.mono hbt35.size)
              clear hbt35
              clear hB38
              go_wp2_with (refine wl_value rfl (exec_catS (s := (putT N28 1)) (t := (putT N30 1)) rfl rfl rfl (by have := HR.out; have := HZ0.out; have := HDhb23.out; have := HDhb24.out; have := HDhb25.out; have := HDhb26.out; have := HDhb27.out; have := HN28.out; have := HZ29.out; have := HN30.out; have := HZ36.out; omega)) ?_; refine Hid.out ?_)
              refine Hid.mk ?_
              have HZ43 := Hid.mk (ByteArray.size_append (a := (putT N28 1)) (b := (putT N30 1)))
              have HZ44 := Hid.mk (putT_size m.rest 4)
              go_upto_region 7 with fail
              refine wp_region_cut 6 rfl (by kernel_rfl) (any_steps (Below w38.heap.size w38) (fun v v' => Below v.heap.size v v') (fun j vv _ => vv = ([.pointer (some ⟨g9, 2, none⟩), .int .u32 ((m.rest : Nat) : Int), .int .u64 ((m.rest : Nat) : Int), .string (putT m.rest 4), .pointer (some ⟨g9, 3, none⟩), .string m.body] : List Value).getD j undef)
                  [50, 51, 52, 53, 54, 55]
                  [(5, .pointer (some ⟨g9, 0, none⟩))]
                  [[], [0], [1], [2], [], [4]]
                  (by kernel_rfl) ⟨rfl, trivial⟩ (Below.drew (Below.refl _ _)) (fun v v' h hb => h.trans (hb.mono h.size)) (fun _ _ _ _ h _ => h)
                  ⟨
                  (fun QQ aa ww hS fr kn => ⟨trivial, fun K hK => wp_value (exec_fms 2 (by decide) rfl fr.1) (hK _ _ rfl (Below.refl _ _))⟩),
                  (fun QQ aa ww hS fr kn => ⟨trivial, fun K hK => wp_value (exec_ld rfl kn.1 (ld32 (SAt.at (SAt.kept s41 hS) 2 (by decide)))) (hK _ _ rfl (Below.refl _ _))⟩),
                  (fun QQ aa ww hS fr kn => ⟨trivial, fun K hK => wp_value (exec_cv32U (m := m.rest) rfl kn.1 (by have := HR.out; have := HZ0.out; have := HDhb23.out; have := HDhb24.out; have := HDhb25.out; have := HDhb26.out; have := HDhb27.out; have := HN28.out; have := HZ29.out; have := HN30.out; have := HZ36.out; have := HZ43.out; omega)) (hK _ _ rfl (Below.refl _ _))⟩),
                  (fun QQ aa ww hS fr kn => ⟨trivial, fun K hK => stepc en_aditref12_Put rfl (args2 kn.1 rfl) (rPut_run m.rest 4 ww (by have := HR.out; have := HZ0.out; have := HDhb23.out; have := HDhb24.out; have := HDhb25.out; have := HDhb26.out; have := HDhb27.out; have := HN28.out; have := HZ29.out; have := HN30.out; have := HZ36.out; have := HZ43.out; have := HZ44.out; omega) (by decide) (by decide)) (fun w' hb => hK _ _ rfl hb)⟩),
                  (fun QQ aa ww hS fr kn => ⟨trivial, fun K hK => wp_value (exec_fms 3 (by decide) rfl fr.1) (hK _ _ rfl (Below.refl _ _))⟩),
                  (fun QQ aa ww hS fr kn => ⟨trivial, fun K hK => wp_value (exec_ld rfl kn.1 (ldS (SAt.at (SAt.kept s41 hS) 3 (by decide)))) (hK _ _ rfl (Below.refl _ _))⟩),
                  trivial⟩ ?_)
              intro vs w45 hB45 kn
              have e53 : vs 53 = .string (putT m.rest 4) := kn 3 (by decide)
              have e55 : vs 55 = .string m.body := kn 5 (by decide)
              clear kn
              show wpList Tryd.prog _ _ (_ :: _ :: []) _ _
              simp only [putAll, Act.put, List.setIfInBounds_toArray, List.set_cons_zero, List.set_cons_succ, e53, e55]
              clear e53 e55
              have s46 := s39.kept hB45
              clear s39
              have s47 := s40.kept hB45
              clear s40
              have s48 := s41.kept hB45
              clear s41
              have hbt49 := hbt42.trans (hB45.mono hbt42.size)
              clear hbt42
              clear hB45
              go_wp2_with (refine wl_value rfl (exec_catS (s := (putT m.rest 4)) (t := m.body) rfl rfl rfl (by have := HR.out; have := HZ0.out; have := HDhb23.out; have := HDhb24.out; have := HDhb25.out; have := HDhb26.out; have := HDhb27.out; have := HN28.out; have := HZ29.out; have := HN30.out; have := HZ36.out; have := HZ43.out; have := HZ44.out; omega)) ?_; refine Hid.out ?_)
              refine Hid.mk ?_
              have HZ50 := Hid.mk (ByteArray.size_append (a := (putT m.rest 4)) (b := m.body))
              go_wp2_with (refine wl_value rfl (look_st rfl isAddr s46 rfl) ?_; refine Hid.out ?_)
              refine Hid.mk ?_
              go_wp2_with (refine wl_value rfl (look_st rfl isAddr s47 rfl) ?_; refine Hid.out ?_)
              refine Hid.mk ?_
              go_wp2_with (refine wl_value rfl (exec_catS (s := ((putT N28 1) ++ (putT N30 1))) (t := (⟨#[0, 0]⟩)) rfl rfl rfl (by have := HR.out; have := HZ0.out; have := HDhb23.out; have := HDhb24.out; have := HDhb25.out; have := HDhb26.out; have := HDhb27.out; have := HN28.out; have := HZ29.out; have := HN30.out; have := HZ36.out; have := HZ43.out; have := HZ44.out; have := HZ50.out; omega)) ?_; refine Hid.out ?_)
              refine Hid.mk ?_
              have HZ51 := Hid.mk (ByteArray.size_append (a := ((putT N28 1) ++ (putT N30 1))) (b := (⟨#[0, 0]⟩)))
              go_wp2_with (refine wl_value rfl (exec_catS (s := (((putT N28 1) ++ (putT N30 1)) ++ (⟨#[0, 0]⟩))) (t := ((putT m.rest 4) ++ m.body)) rfl rfl rfl (by have := HR.out; have := HZ0.out; have := HDhb23.out; have := HDhb24.out; have := HDhb25.out; have := HDhb26.out; have := HDhb27.out; have := HN28.out; have := HZ29.out; have := HN30.out; have := HZ36.out; have := HZ43.out; have := HZ44.out; have := HZ50.out; have := HZ51.out; omega)) ?_; refine Hid.out ?_)
              refine Hid.mk ?_
              have HZ52 := Hid.mk (ByteArray.size_append (a := (((putT N28 1) ++ (putT N30 1)) ++ (⟨#[0, 0]⟩))) (b := ((putT m.rest 4) ++ m.body)))
              obtain ⟨N53, hN53⟩ : ∃ n : ByteArray, n = (((putT N28 1) ++ (putT N30 1)) ++ (⟨#[0, 0]⟩)) ++ ((putT m.rest 4) ++ m.body) := ⟨_, rfl⟩
              have HN53 := Hid.mk hN53
              clear hN53
              have HZ54 := Hid.mk (sumT_b (psH v1 b1 b2 N53.size ++ N53))
              have HZ55 : Hid (N53.size = ((((putT N28 1) ++ (putT N30 1)) ++ (⟨#[0, 0]⟩)) ++ ((putT m.rest 4) ++ m.body)).size) := Hid.mk (by rw [HN53.out])
              have HC56 : Hid (Calls Tryd.prog 37 #[.agg (SC 17 (adV v1 b1)), .agg (SC 17 (adV v2 b2)), .string ((((putT N28 1) ++ (putT N30 1)) ++ (⟨#[0, 0]⟩)) ++ ((putT m.rest 4) ++ m.body))] w45 fun e w' => e = .returned (.int .i64 (sumT (psH v1 b1 b2 N53.size ++ N53))) ∧ Below w45.heap.size w45 w') := Hid.mk (by rw [← HV2.out.2.2, ← HN53.out]; exact rcheck_run v1 b1 b2 N53 w45 hb1 hb2 HV2.out.1 HV3.out (by have := HR.out; have := HZ0.out; have := HDhb23.out; have := HDhb24.out; have := HDhb25.out; have := HDhb26.out; have := HDhb27.out; have := HN28.out; have := HZ29.out; have := HN30.out; have := HZ36.out; have := HZ43.out; have := HZ44.out; have := HZ50.out; have := HZ51.out; have := HZ52.out; have := HZ54.out; have := HZ55.out; omega))
              go_wp2_with (refine wl_cal en_aditref15_check HC56 rfl rfl (args3 rfl rfl rfl) ?_; intro w57 hB57; refine Hid.out ?_)
              refine Hid.mk ?_
              clear HC56
              have s58 := s46.kept hB57
              clear s46
              have s59 := s47.kept hB57
              clear s47
              have s60 := s48.kept hB57
              clear s48
              have hbt61 := hbt49.trans (hB57.mono hbt49.size)
              clear hbt49
              clear hB57
              obtain ⟨N62, hN62⟩ : ∃ n : Nat, n = (sumT (psH v1 b1 b2 N53.size ++ N53)).toNat := ⟨_, rfl⟩
              have HN62 := Hid.mk hN62
              clear hN62
              go_wp2_with (refine wl_value rfl (cvN HN62 (exec_cvIU64 (m := sumT (psH v1 b1 b2 N53.size ++ N53)) rfl rfl (by have := HR.out; have := HZ0.out; have := HDhb23.out; have := HDhb24.out; have := HDhb25.out; have := HDhb26.out; have := HDhb27.out; have := HN28.out; have := HZ29.out; have := HN30.out; have := HZ36.out; have := HZ43.out; have := HZ44.out; have := HZ50.out; have := HZ51.out; have := HZ52.out; have := HZ54.out; have := HZ55.out; have := HN62.out; omega) (by have := HR.out; have := HZ0.out; have := HDhb23.out; have := HDhb24.out; have := HDhb25.out; have := HDhb26.out; have := HDhb27.out; have := HN28.out; have := HZ29.out; have := HN30.out; have := HZ36.out; have := HZ43.out; have := HZ44.out; have := HZ50.out; have := HZ51.out; have := HZ52.out; have := HZ54.out; have := HZ55.out; have := HN62.out; omega))) ?_; refine Hid.out ?_)
              refine Hid.mk ?_
              have HZ63 := Hid.mk (putT_size N62 2)
              have HC64 : Hid (Calls Tryd.prog 36 #[.int .u64 ((N62 : Nat) : Int), .int .i64 2] w57 fun e w' => e = .returned (.string (putT N62 2)) ∧ Below w57.heap.size w57 w') := Hid.mk (rPut_run N62 2 w57 (by have := HR.out; have := HZ0.out; have := HDhb23.out; have := HDhb24.out; have := HDhb25.out; have := HDhb26.out; have := HDhb27.out; have := HN28.out; have := HZ29.out; have := HN30.out; have := HZ36.out; have := HZ43.out; have := HZ44.out; have := HZ50.out; have := HZ51.out; have := HZ52.out; have := HZ54.out; have := HZ55.out; have := HN62.out; have := HZ63.out; omega) (by decide) (by decide))
              go_wp2_with (refine wl_cal en_aditref12_Put HC64 rfl rfl (args2 rfl rfl) ?_; intro w65 hB65; refine Hid.out ?_)
              refine Hid.mk ?_
              clear HC64
              have s66 := s58.kept hB65
              clear s58
              have s67 := s59.kept hB65
              clear s59
              have s68 := s60.kept hB65
              clear s60
              have hbt69 := hbt61.trans (hB65.mono hbt61.size)
              clear hbt61
              clear hB65
              go_wp2_with (refine wl_value rfl (exec_catS (s := ((putT N28 1) ++ (putT N30 1))) (t := (putT N62 2)) rfl rfl rfl (by have := HR.out; have := HZ0.out; have := HDhb23.out; have := HDhb24.out; have := HDhb25.out; have := HDhb26.out; have := HDhb27.out; have := HN28.out; have := HZ29.out; have := HN30.out; have := HZ36.out; have := HZ43.out; have := HZ44.out; have := HZ50.out; have := HZ51.out; have := HZ52.out; have := HZ54.out; have := HZ55.out; have := HN62.out; have := HZ63.out; omega)) ?_; refine Hid.out ?_)
              refine Hid.mk ?_
              have HZ70 := Hid.mk (ByteArray.size_append (a := ((putT N28 1) ++ (putT N30 1))) (b := (putT N62 2)))
              go_wp2_with (refine wl_value rfl (exec_catS (s := (((putT N28 1) ++ (putT N30 1)) ++ (putT N62 2))) (t := ((putT m.rest 4) ++ m.body)) rfl rfl rfl (by have := HR.out; have := HZ0.out; have := HDhb23.out; have := HDhb24.out; have := HDhb25.out; have := HDhb26.out; have := HDhb27.out; have := HN28.out; have := HZ29.out; have := HN30.out; have := HZ36.out; have := HZ43.out; have := HZ44.out; have := HZ50.out; have := HZ51.out; have := HZ52.out; have := HZ54.out; have := HZ55.out; have := HN62.out; have := HZ63.out; have := HZ70.out; omega)) ?_; refine Hid.out ?_)
              refine Hid.mk ?_
              have HZ71 := Hid.mk (ByteArray.size_append (a := (((putT N28 1) ++ (putT N30 1)) ++ (putT N62 2))) (b := ((putT m.rest 4) ++ m.body)))
              go_wp2_with fail
              have hq : ¬ 65507 < m.body.size := (by have := HR.out; have := HZ0.out; have := HDhb23.out; have := HDhb24.out; have := HDhb25.out; have := HDhb26.out; have := HDhb27.out; have := HN28.out; have := HZ29.out; have := HN30.out; have := HZ36.out; have := HZ43.out; have := HZ44.out; have := HZ50.out; have := HZ51.out; have := HZ52.out; have := HZ54.out; have := HZ55.out; have := HN62.out; have := HZ63.out; have := HZ70.out; have := HZ71.out; omega)
              have hE : mBldE v1 b1 v2 b2 m = 0 := by unfold mBldE; rw [if_pos ⟨Hhb16.out, msOk_iff.2 (by have := HR.out; have := HZ0.out; have := HDhb23.out; have := HDhb24.out; have := HDhb25.out; have := HDhb26.out; have := HDhb27.out; have := HN28.out; have := HZ29.out; have := HN30.out; have := HZ36.out; have := HZ43.out; have := HZ44.out; have := HZ50.out; have := HZ51.out; have := HZ52.out; have := HZ54.out; have := HZ55.out; have := HN62.out; have := HZ63.out; have := HZ70.out; have := HZ71.out; omega)⟩, if_neg hq]
              have hT : mBldT v1 b1 v2 b2 m = (((putT N28 1) ++ (putT N30 1)) ++ (putT N62 2)) ++ ((putT m.rest 4) ++ m.body) := by have hs := HN28.out; subst hs; have hs := HN30.out; subst hs; have hs := HN53.out; subst hs; have hs := HN62.out; subst hs; unfold mBldT; rw [if_pos hE]; exact (rbld HV2.out.1 HV3.out (msA_size m) (msR m)).symm
              refine bodyPost_ret (results_two rfl (by rfl) (by rfl)) rfl ?_
              exact ⟨Eq.trans (rfl : _ = Ending.returned (.tuple #[.string ((((putT N28 1) ++ (putT N30 1)) ++ (putT N62 2)) ++ ((putT m.rest 4) ++ m.body)), .int .i64 0])) (by have hsub := HN28.out; subst hsub; have hsub := HN30.out; subst hsub; have hsub := HN53.out; subst hsub; have hsub := HN62.out; subst hsub; rw [← HRV.out, hE, hT]), hbt69⟩
  · have Hhb16 := Hid.mk hb16
    clear hb16
    have HC72 : Hid (Calls Tryd.prog 35 #[.agg (SC 17 (adV v1 b1)), .agg (SC 17 (adV v2 b2))] w9 fun e w' => e = .returned (.bool false) ∧ Below w9.heap.size w9 w') := Hid.mk (by have h := rends_run v1 b1 v2 b2 w9; rw [Hhb16.out] at h; exact h)
    go_wp2_with (refine wl_cal en_aditref15_ends HC72 rfl rfl (args2 rfl rfl) ?_; intro w73 hB73; refine Hid.out ?_)
    refine Hid.mk ?_
    clear HC72
    have s74 := s13.kept hB73
    clear s13
    have s75 := s14.kept hB73
    clear s14
    have s76 := s9.kept hB73
    clear s9
    have hbt77 := hbt15.trans (hB73.mono hbt15.size)
    clear hbt15
    clear hB73
    go_wp2_with fail
    have hE : mBldE v1 b1 v2 b2 m = 1 := by unfold mBldE; rw [if_neg (fun h => by rw [Hhb16.out] at h; cases h.1)]
    have hT : mBldT v1 b1 v2 b2 m = ByteArray.empty := by unfold mBldT; rw [if_neg (by rw [hE]; decide)]
    refine bodyPost_ret (results_two rfl (by rfl) (by rfl)) rfl ?_
    exact ⟨Eq.trans (rfl : _ = Ending.returned (.tuple #[.string ByteArray.empty, .int .i64 1])) (by rw [← HRV.out, hE, hT]), hbt77⟩
set_option linter.unusedSimpArgs false in
set_option maxHeartbeats 4000000 in
theorem dParse_run (v1 : Bool) (b1 : Nat → Int) (v2 : Bool) (b2 : Nat → Int) (b : ByteArray) (w : World) (hb1 : Byts 16 b1) (hb2 : Byts 16 b2) (hs : b.size < 4611686018427387904) : Calls Tryd.prog 12 #[.agg (SC 17 (adV v1 b1)), .agg (SC 17 (adV v2 b2)), .string b] w fun e w' => e = .returned (.tuple #[.agg (SC 4 (msV (mRdM v1 b1 v2 b2 b))), .int .i64 (mRdE v1 b1 v2 b2 b)]) ∧ Below w.heap.size w w' := by
  generalize hRV : (.tuple #[.agg (SC 4 (msV (mRdM v1 b1 v2 b2 b))), .int .i64 (mRdE v1 b1 v2 b2 b)] : Value) = RV
  have HRV := Hid.mk hRV
  clear hRV
  have HS := Hid.mk hs
  clear hs
  obtain ⟨T, hT⟩ : ∃ T, T = b.extract 0 2 ++ (⟨#[0, 0]⟩ : ByteArray) ++ b.extract 4 b.size := ⟨_, rfl⟩
  have HT := Hid.mk hT
  clear hT
  have HZ0 : Hid ((⟨#[0, 0]⟩ : ByteArray).size = 2) := Hid.mk rfl
  go_enter Tryd.func12, Tryd.ntmps12
  go_wp2_with (refine wl_boxO (V := adV v1 b1) rfl rfl isAddr rfl ?_; intro g1 w1 hg1 s1 hB1; refine Hid.out ?_)
  refine Hid.mk ?_
  have hz2 : w.heap.size ≤ g1 := by omega
  have hbt3 := hB1
  clear hB1 hg1
  go_wp2_with (refine wl_boxO (V := adV v2 b2) rfl rfl isAddr rfl ?_; intro g4 w4 hg4 s4 hB4; refine Hid.out ?_)
  refine Hid.mk ?_
  have hn5 : g1 ≠ g4 := by have := s1.lt; omega
  have hz6 : w.heap.size ≤ g4 := by have := hbt3.size; omega
  have s7 := s1.kept hB4
  clear s1
  have hbt8 := hbt3.trans (hB4.mono hbt3.size)
  clear hbt3
  clear hB4 hg4
  go_wp2_with (refine wl_alO (V := msV ms0) rfl rfl zeroMs ?_; intro g9 w9 hg9 s9 hB9; refine Hid.out ?_)
  refine Hid.mk ?_
  have hn10 : g1 ≠ g9 := by have := s7.lt; omega
  have hn11 : g4 ≠ g9 := by have := s4.lt; omega
  have hz12 : w.heap.size ≤ g9 := by have := hbt8.size; omega
  have s13 := s7.kept hB9
  clear s7
  have s14 := s4.kept hB9
  clear s4
  have hbt15 := hbt8.trans (hB9.mono hbt8.size)
  clear hbt8
  clear hB9 hg9
  go_wp2_with (refine wl_value rfl (look_st rfl isAddr s13 rfl) ?_; refine Hid.out ?_)
  refine Hid.mk ?_
  go_wp2_with (refine wl_value rfl (look_st rfl isAddr s14 rfl) ?_; refine Hid.out ?_)
  refine Hid.mk ?_
  rcases Bool.eq_false_or_eq_true (endsB v1 b1 v2 b2) with hb16 | hb16
  · have Hhb16 := Hid.mk hb16
    clear hb16
    have HV2 := Hid.mk (ends_iff.1 Hhb16.out)
    have HV3 : Hid (validF v1 b2 = true) := Hid.mk (by rw [HV2.out.2.2]; exact HV2.out.2.1)
    have HC17 : Hid (Calls Tryd.prog 35 #[.agg (SC 17 (adV v1 b1)), .agg (SC 17 (adV v2 b2))] w9 fun e w' => e = .returned (.bool true) ∧ Below w9.heap.size w9 w') := Hid.mk (by have h := rends_run v1 b1 v2 b2 w9; rw [Hhb16.out] at h; exact h)
    go_wp2_with (refine wl_cal en_aditref15_ends HC17 rfl rfl (args2 rfl rfl) ?_; intro w18 hB18; refine Hid.out ?_)
    refine Hid.mk ?_
    clear HC17
    have s19 := s13.kept hB18
    clear s13
    have s20 := s14.kept hB18
    clear s14
    have s21 := s9.kept hB18
    clear s9
    have hbt22 := hbt15.trans (hB18.mono hbt15.size)
    clear hbt15
    clear hB18
    go_wp2_with (refine wl_value rfl (exec_lenS rfl rfl) ?_; refine Hid.out ?_)
    refine Hid.mk ?_
    rcases Bool.eq_false_or_eq_true (decide ((b.size : Int) < 8)) with hb23 | hb23
    · have Hhb23 := Hid.mk hb23
      clear hb23
      have HDhb23 := Hid.mk (of_decide_eq_true Hhb23.out)
      go_wp2_with (refine wl_value rfl (kn_ (c := true) Hhb23 (cmp_lt (m := (b.size : Int)) (n := 8) rfl rfl rfl)) ?_; refine Hid.out ?_)
      refine Hid.mk ?_
      go_wp2_with (refine wl_value rfl (exec_bdMs0 rfl) ?_; refine Hid.out ?_)
      refine Hid.mk ?_
      go_wp2_with (refine st_stO (V := msV ms0) (g := g9) rfl rfl isMs (msV_one _) s21 rfl rfl ?_; intro w24 s24 ho24; refine Hid.out ?_)
      refine Hid.mk ?_
      clear s21
      have s25 := s19.only ho24 hn10
      clear s19
      have s26 := s20.only ho24 hn11
      clear s20
      have hbt27 := hbt22.trans (ho24.below hz12)
      clear hbt22
      clear ho24
      go_wp2_with fail
      have hE : mRdE v1 b1 v2 b2 b = 70 := by unfold mRdE; rw [if_pos Hhb16.out, if_pos (by have := HS.out; have := HZ0.out; have := HDhb23.out; omega)]
      have hM : mRdM v1 b1 v2 b2 b = ms0 := by unfold mRdM; rw [if_neg (by rw [hE]; decide)]
      refine bodyPost_ret (res_ct rfl isMs s24 (by rfl) (by rfl)) rfl ?_
      exact ⟨Eq.trans (rfl : _ = Ending.returned (.tuple #[.agg (SC 4 (msV ms0)), .int .i64 70])) (by rw [← HRV.out, hE, hM]), hbt27⟩
    · have Hhb23 := Hid.mk hb23
      clear hb23
      have HDhb23 := Hid.mk (of_decide_eq_false Hhb23.out)
      go_wp2_with (refine wl_value rfl (kn_ (c := false) Hhb23 (cmp_lt (m := (b.size : Int)) (n := 8) rfl rfl rfl)) ?_; refine Hid.out ?_)
      refine Hid.mk ?_
      go_wp2_with (refine wl_value rfl (exec_lenS rfl rfl) ?_; refine Hid.out ?_)
      refine Hid.mk ?_
      rcases Bool.eq_false_or_eq_true (decide (65515 < (b.size : Int))) with hb28 | hb28
      · have Hhb28 := Hid.mk hb28
        clear hb28
        have HDhb28 := Hid.mk (of_decide_eq_true Hhb28.out)
        go_wp2_with (refine wl_value rfl (kn_ (c := true) Hhb28 (cmp_gt (m := (b.size : Int)) (n := 65515) rfl rfl rfl)) ?_; refine Hid.out ?_)
        refine Hid.mk ?_
        go_wp2_with (refine wl_value rfl (exec_bdMs0 rfl) ?_; refine Hid.out ?_)
        refine Hid.mk ?_
        go_wp2_with (refine st_stO (V := msV ms0) (g := g9) rfl rfl isMs (msV_one _) s21 rfl rfl ?_; intro w29 s29 ho29; refine Hid.out ?_)
        refine Hid.mk ?_
        clear s21
        have s30 := s19.only ho29 hn10
        clear s19
        have s31 := s20.only ho29 hn11
        clear s20
        have hbt32 := hbt22.trans (ho29.below hz12)
        clear hbt22
        clear ho29
        go_wp2_with fail
        have hE : mRdE v1 b1 v2 b2 b = 73 := by unfold mRdE; rw [if_pos Hhb16.out, if_neg (by have := HS.out; have := HZ0.out; have := HDhb23.out; have := HDhb28.out; omega), if_pos (Or.inl (by have := HS.out; have := HZ0.out; have := HDhb23.out; have := HDhb28.out; omega))]
        have hM : mRdM v1 b1 v2 b2 b = ms0 := by unfold mRdM; rw [if_neg (by rw [hE]; decide)]
        refine bodyPost_ret (res_ct rfl isMs s29 (by rfl) (by rfl)) rfl ?_
        exact ⟨Eq.trans (rfl : _ = Ending.returned (.tuple #[.agg (SC 4 (msV ms0)), .int .i64 73])) (by rw [← HRV.out, hE, hM]), hbt32⟩
      · have Hhb28 := Hid.mk hb28
        clear hb28
        have HDhb28 := Hid.mk (of_decide_eq_false Hhb28.out)
        go_wp2_with (refine wl_value rfl (kn_ (c := false) Hhb28 (cmp_gt (m := (b.size : Int)) (n := 65515) rfl rfl rfl)) ?_; refine Hid.out ?_)
        refine Hid.mk ?_
        have HZ33 : Hid (getN (txt b) 2 2 < 256 ^ 2) := Hid.mk (getN_lt (fun j => txt_b b j) 2 2)
        have HZ34 : Hid (getN (txt b) 2 2 < 65536) := Hid.mk HZ33.out
        have HC35 : Hid (Calls Tryd.prog 39 #[.string b, .int .i64 2, .int .i64 2] w18 fun e w' => e = .returned (.tuple #[.int .u64 ((getN (txt b) 2 2 : Nat) : Int), .bool true]) ∧ Below w18.heap.size w18 w') := Hid.mk (rGet_run b 2 2 w18 (by have := HS.out; have := HZ0.out; have := HDhb23.out; have := HDhb28.out; have := HZ34.out; omega) (by decide) (by decide) (by have := HS.out; have := HZ0.out; have := HDhb23.out; have := HDhb28.out; have := HZ34.out; omega))
        go_wp2_with (refine wl_cal en_aditref12_Get HC35 rfl rfl (args3 rfl rfl rfl) ?_; intro w36 hB36; refine Hid.out ?_)
        refine Hid.mk ?_
        clear HC35
        have s37 := s19.kept hB36
        clear s19
        have s38 := s20.kept hB36
        clear s20
        have s39 := s21.kept hB36
        clear s21
        have hbt40 := hbt22.trans (hB36.mono hbt22.size)
        clear hbt22
        clear hB36
        have HZ41 := Hid.mk (cutP_size b 0 2 (by have := HS.out; have := HZ0.out; have := HDhb23.out; have := HDhb28.out; have := HZ34.out; omega))
        have HZ42 := Hid.mk (ByteArray.size_append (a := (b.extract 0 2)) (b := (⟨#[0, 0]⟩)))
        have HZ43 := Hid.mk (cutP_size b 4 b.size (by have := HS.out; have := HZ0.out; have := HDhb23.out; have := HDhb28.out; have := HZ34.out; have := HZ41.out; have := HZ42.out; omega))
        have HZ44 := Hid.mk (ByteArray.size_append (a := ((b.extract 0 2) ++ (⟨#[0, 0]⟩))) (b := (b.extract 4 b.size)))
        have HZ45 := Hid.mk (sumT_b (psH v1 b1 b2 T.size ++ T))
        have HZ46 : Hid (T.size = (((b.extract 0 2) ++ (⟨#[0, 0]⟩)) ++ (b.extract 4 b.size)).size) := Hid.mk (by rw [HT.out])
        go_upto_region 9 with fail
        refine wp_region_cut 11 rfl (by kernel_rfl) (any_steps (Below w36.heap.size w36) (fun v v' => Below v.heap.size v v') (fun j vv _ => vv = ([.agg (SC 17 (adV v1 b1)), .agg (SC 17 (adV v2 b2)), .string b, .string (b.extract 0 2), .string ((b.extract 0 2) ++ (⟨#[0, 0]⟩)), .string b, .string (b.extract 4 b.size), .string (((b.extract 0 2) ++ (⟨#[0, 0]⟩)) ++ (b.extract 4 b.size)), .int .i64 (sumT (psH v1 b1 b2 T.size ++ T)), .int .u64 ((getN (txt b) 2 2 : Nat) : Int), .int .i64 ((getN (txt b) 2 2 : Nat) : Int)] : List Value).getD j undef)
            [32, 33, 34, 35, 36, 37, 38, 39, 40, 41, 42]
            [(3, .pointer (some ⟨g1, 0, none⟩)), (4, .pointer (some ⟨g4, 0, none⟩)), (2, .string b), (9, .int .u64 ((getN (txt b) 2 2 : Nat) : Int))]
            [[], [], [], [2], [3], [], [5], [4, 6], [0, 1, 7], [], [9]]
            (by kernel_rfl) ⟨rfl, rfl, rfl, rfl, trivial⟩ (Below.drew (Below.refl _ _)) (fun v v' h hb => h.trans (hb.mono h.size)) (fun _ _ _ _ h _ => h)
            ⟨
            (fun QQ aa ww hS fr kn => ⟨trivial, fun K hK => wp_value (look_st rfl isAddr (SAt.kept s37 hS) fr.1) (hK _ _ rfl (Below.refl _ _))⟩),
            (fun QQ aa ww hS fr kn => ⟨trivial, fun K hK => wp_value (look_st rfl isAddr (SAt.kept s38 hS) fr.2.1) (hK _ _ rfl (Below.refl _ _))⟩),
            (fun QQ aa ww hS fr kn => ⟨trivial, fun K hK => wp_value (exec_move rfl fr.2.2.1) (hK _ _ rfl (Below.refl _ _))⟩),
            (fun QQ aa ww hS fr kn => ⟨trivial, fun K hK => wp_value (exec_slH (v := .string b) (u := .int .i64 (2 : Nat)) rfl kn.1 rfl (strH b 2 _ (by have := HS.out; have := HZ0.out; have := HDhb23.out; have := HDhb28.out; have := HZ34.out; omega))) (hK _ _ rfl (Below.refl _ _))⟩),
            (fun QQ aa ww hS fr kn => ⟨trivial, fun K hK => wp_value (exec_catS (s := (b.extract 0 2)) (t := (⟨#[0, 0]⟩)) rfl kn.1 rfl (by have := HS.out; have := HZ0.out; have := HDhb23.out; have := HDhb28.out; have := HZ34.out; have := HZ41.out; omega)) (hK _ _ rfl (Below.refl _ _))⟩),
            (fun QQ aa ww hS fr kn => ⟨trivial, fun K hK => wp_value (exec_move rfl fr.2.2.1) (hK _ _ rfl (Below.refl _ _))⟩),
            (fun QQ aa ww hS fr kn => ⟨trivial, fun K hK => wp_value (exec_slL (v := .string b) (u := .int .i64 (4 : Nat)) rfl kn.1 rfl (strL b 4 _ (by have := HS.out; have := HZ0.out; have := HDhb23.out; have := HDhb28.out; have := HZ34.out; have := HZ41.out; have := HZ42.out; omega))) (hK _ _ rfl (Below.refl _ _))⟩),
            (fun QQ aa ww hS fr kn => ⟨trivial, fun K hK => wp_value (exec_catS (s := ((b.extract 0 2) ++ (⟨#[0, 0]⟩))) (t := (b.extract 4 b.size)) rfl kn.1 kn.2.1 (by have := HS.out; have := HZ0.out; have := HDhb23.out; have := HDhb28.out; have := HZ34.out; have := HZ41.out; have := HZ42.out; have := HZ43.out; omega)) (hK _ _ rfl (Below.refl _ _))⟩),
            (fun QQ aa ww hS fr kn => ⟨trivial, fun K hK => stepc en_aditref15_check rfl (args3 kn.1 kn.2.1 kn.2.2.1) (by rw [← HV2.out.2.2, ← HT.out]; exact rcheck_run v1 b1 b2 T ww hb1 hb2 HV2.out.1 HV3.out (by have := HS.out; have := HZ0.out; have := HDhb23.out; have := HDhb28.out; have := HZ34.out; have := HZ41.out; have := HZ42.out; have := HZ43.out; have := HZ44.out; have := HZ45.out; have := HZ46.out; omega)) (fun w' hb => hK _ _ rfl hb)⟩),
            (fun QQ aa ww hS fr kn => ⟨trivial, fun K hK => wp_value (exec_move rfl fr.2.2.2.1) (hK _ _ rfl (Below.refl _ _))⟩),
            (fun QQ aa ww hS fr kn => ⟨trivial, fun K hK => wp_value (exec_cvUI (m := getN (txt b) 2 2) rfl kn.1 (by have := HS.out; have := HZ0.out; have := HDhb23.out; have := HDhb28.out; have := HZ34.out; have := HZ41.out; have := HZ42.out; have := HZ43.out; have := HZ44.out; have := HZ45.out; have := HZ46.out; omega)) (hK _ _ rfl (Below.refl _ _))⟩),
            trivial⟩ ?_)
        intro vs w47 hB47 kn
        have e40 : vs 40 = .int .i64 (sumT (psH v1 b1 b2 T.size ++ T)) := kn 8 (by decide)
        have e42 : vs 42 = .int .i64 ((getN (txt b) 2 2 : Nat) : Int) := kn 10 (by decide)
        clear kn
        show wpList Tryd.prog _ _ (_ :: []) _ _
        simp only [putAll, Act.put, List.setIfInBounds_toArray, List.set_cons_zero, List.set_cons_succ, e40, e42]
        clear e40 e42
        have s48 := s37.kept hB47
        clear s37
        have s49 := s38.kept hB47
        clear s38
        have s50 := s39.kept hB47
        clear s39
        have hbt51 := hbt40.trans (hB47.mono hbt40.size)
        clear hbt40
        clear hB47
        rcases Bool.eq_false_or_eq_true (decide (sumT (psH v1 b1 b2 T.size ++ T) = ((getN (txt b) 2 2 : Nat) : Int))) with hb52 | hb52
        · have Hhb52 := Hid.mk hb52
          clear hb52
          have HDhb52 := Hid.mk (of_decide_eq_true Hhb52.out)
          go_wp2_with (refine wl_value rfl (kn_n (c := false) Hhb52 (cmp_ne (m := sumT (psH v1 b1 b2 T.size ++ T)) (n := ((getN (txt b) 2 2 : Nat) : Int)) rfl rfl rfl)) ?_; refine Hid.out ?_)
          refine Hid.mk ?_
          have HZ53 : Hid (getN (txt b) 4 4 < 256 ^ 4) := Hid.mk (getN_lt (fun j => txt_b b j) 4 4)
          have HZ54 : Hid (getN (txt b) 4 4 < 4294967296) := Hid.mk HZ53.out
          have HC55 : Hid (Calls Tryd.prog 39 #[.string b, .int .i64 4, .int .i64 4] w47 fun e w' => e = .returned (.tuple #[.int .u64 ((getN (txt b) 4 4 : Nat) : Int), .bool true]) ∧ Below w47.heap.size w47 w') := Hid.mk (rGet_run b 4 4 w47 (by have := HS.out; have := HZ0.out; have := HDhb23.out; have := HDhb28.out; have := HZ34.out; have := HZ41.out; have := HZ42.out; have := HZ43.out; have := HZ44.out; have := HZ45.out; have := HZ46.out; have := HDhb52.out; have := HZ54.out; omega) (by decide) (by decide) (by have := HS.out; have := HZ0.out; have := HDhb23.out; have := HDhb28.out; have := HZ34.out; have := HZ41.out; have := HZ42.out; have := HZ43.out; have := HZ44.out; have := HZ45.out; have := HZ46.out; have := HDhb52.out; have := HZ54.out; omega))
          go_wp2_with (refine wl_cal en_aditref12_Get HC55 rfl rfl (args3 rfl rfl rfl) ?_; intro w56 hB56; refine Hid.out ?_)
          refine Hid.mk ?_
          clear HC55
          have s57 := s48.kept hB56
          clear s48
          have s58 := s49.kept hB56
          clear s49
          have s59 := s50.kept hB56
          clear s50
          have hbt60 := hbt51.trans (hB56.mono hbt51.size)
          clear hbt51
          clear hB56
          have HU61 := Hid.mk (txt_b b 0)
          have HU62 := Hid.mk (txt_b b 1)
          have HZ63 := Hid.mk (cutP_size b 8 b.size (by have := HS.out; have := HZ0.out; have := HDhb23.out; have := HDhb28.out; have := HZ34.out; have := HZ41.out; have := HZ42.out; have := HZ43.out; have := HZ44.out; have := HZ45.out; have := HZ46.out; have := HDhb52.out; have := HZ54.out; have := HU61.out; have := HU62.out; omega))
          go_upto_region 12 with fail
          refine wp_region_cut 10 rfl (by kernel_rfl) (any_steps (Below w56.heap.size w56) (fun v v' => Below v.heap.size v v') (fun j vv _ => vv = ([.string b, .int .u8 (txt b 0), .int .i64 (txt b 0), .string b, .int .u8 (txt b 1), .int .i64 (txt b 1), .int .u64 ((getN (txt b) 4 4 : Nat) : Int), .int .u32 ((getN (txt b) 4 4 : Nat) : Int), .string b, .string (b.extract 8 b.size)] : List Value).getD j undef)
              [50, 51, 52, 53, 54, 55, 56, 57, 58, 59]
              [(2, .string b), (11, .int .u64 ((getN (txt b) 4 4 : Nat) : Int))]
              [[], [0], [1], [], [3], [4], [], [6], [], [8]]
              (by kernel_rfl) ⟨rfl, rfl, trivial⟩ (Below.drew (Below.refl _ _)) (fun v v' h hb => h.trans (hb.mono h.size)) (fun _ _ _ _ h _ => h)
              ⟨
              (fun QQ aa ww hS fr kn => ⟨trivial, fun K hK => wp_value (exec_move rfl fr.1) (hK _ _ rfl (Below.refl _ _))⟩),
              (fun QQ aa ww hS fr kn => ⟨trivial, fun K hK => wp_value (exec_ixs (j := 0) rfl kn.1 rfl (by have := HS.out; have := HZ0.out; have := HDhb23.out; have := HDhb28.out; have := HZ34.out; have := HZ41.out; have := HZ42.out; have := HZ43.out; have := HZ44.out; have := HZ45.out; have := HZ46.out; have := HDhb52.out; have := HZ54.out; omega)) (hK _ _ rfl (Below.refl _ _))⟩),
              (fun QQ aa ww hS fr kn => ⟨trivial, fun K hK => wp_value (exec_cvW (m := txt b 0) rfl kn.1 (by have := HS.out; have := HZ0.out; have := HDhb23.out; have := HDhb28.out; have := HZ34.out; have := HZ41.out; have := HZ42.out; have := HZ43.out; have := HZ44.out; have := HZ45.out; have := HZ46.out; have := HDhb52.out; have := HZ54.out; have := HU61.out; omega) (by have := HS.out; have := HZ0.out; have := HDhb23.out; have := HDhb28.out; have := HZ34.out; have := HZ41.out; have := HZ42.out; have := HZ43.out; have := HZ44.out; have := HZ45.out; have := HZ46.out; have := HDhb52.out; have := HZ54.out; have := HU61.out; omega)) (hK _ _ rfl (Below.refl _ _))⟩),
              (fun QQ aa ww hS fr kn => ⟨trivial, fun K hK => wp_value (exec_move rfl fr.1) (hK _ _ rfl (Below.refl _ _))⟩),
              (fun QQ aa ww hS fr kn => ⟨trivial, fun K hK => wp_value (exec_ixs (j := 1) rfl kn.1 rfl (by have := HS.out; have := HZ0.out; have := HDhb23.out; have := HDhb28.out; have := HZ34.out; have := HZ41.out; have := HZ42.out; have := HZ43.out; have := HZ44.out; have := HZ45.out; have := HZ46.out; have := HDhb52.out; have := HZ54.out; have := HU61.out; omega)) (hK _ _ rfl (Below.refl _ _))⟩),
              (fun QQ aa ww hS fr kn => ⟨trivial, fun K hK => wp_value (exec_cvW (m := txt b 1) rfl kn.1 (by have := HS.out; have := HZ0.out; have := HDhb23.out; have := HDhb28.out; have := HZ34.out; have := HZ41.out; have := HZ42.out; have := HZ43.out; have := HZ44.out; have := HZ45.out; have := HZ46.out; have := HDhb52.out; have := HZ54.out; have := HU61.out; have := HU62.out; omega) (by have := HS.out; have := HZ0.out; have := HDhb23.out; have := HDhb28.out; have := HZ34.out; have := HZ41.out; have := HZ42.out; have := HZ43.out; have := HZ44.out; have := HZ45.out; have := HZ46.out; have := HDhb52.out; have := HZ54.out; have := HU61.out; have := HU62.out; omega)) (hK _ _ rfl (Below.refl _ _))⟩),
              (fun QQ aa ww hS fr kn => ⟨trivial, fun K hK => wp_value (exec_move rfl fr.2.1) (hK _ _ rfl (Below.refl _ _))⟩),
              (fun QQ aa ww hS fr kn => ⟨trivial, fun K hK => wp_value (exec_cvU32 (m := getN (txt b) 4 4) rfl kn.1 (by have := HS.out; have := HZ0.out; have := HDhb23.out; have := HDhb28.out; have := HZ34.out; have := HZ41.out; have := HZ42.out; have := HZ43.out; have := HZ44.out; have := HZ45.out; have := HZ46.out; have := HDhb52.out; have := HZ54.out; have := HU61.out; have := HU62.out; omega)) (hK _ _ rfl (Below.refl _ _))⟩),
              (fun QQ aa ww hS fr kn => ⟨trivial, fun K hK => wp_value (exec_move rfl fr.1) (hK _ _ rfl (Below.refl _ _))⟩),
              (fun QQ aa ww hS fr kn => ⟨trivial, fun K hK => wp_value (exec_slL (v := .string b) (u := .int .i64 (8 : Nat)) rfl kn.1 rfl (strL b 8 _ (by have := HS.out; have := HZ0.out; have := HDhb23.out; have := HDhb28.out; have := HZ34.out; have := HZ41.out; have := HZ42.out; have := HZ43.out; have := HZ44.out; have := HZ45.out; have := HZ46.out; have := HDhb52.out; have := HZ54.out; have := HU61.out; have := HU62.out; omega))) (hK _ _ rfl (Below.refl _ _))⟩),
              trivial⟩ ?_)
          intro vs w64 hB64 kn
          have e52 : vs 52 = .int .i64 (txt b 0) := kn 2 (by decide)
          have e55 : vs 55 = .int .i64 (txt b 1) := kn 5 (by decide)
          have e57 : vs 57 = .int .u32 ((getN (txt b) 4 4 : Nat) : Int) := kn 7 (by decide)
          have e59 : vs 59 = .string (b.extract 8 b.size) := kn 9 (by decide)
          clear kn
          show wpList Tryd.prog _ _ (_ :: _ :: _ :: []) _ _
          simp only [putAll, Act.put, List.setIfInBounds_toArray, List.set_cons_zero, List.set_cons_succ, e52, e55, e57, e59]
          clear e52 e55 e57 e59
          have s65 := s57.kept hB64
          clear s57
          have s66 := s58.kept hB64
          clear s58
          have s67 := s59.kept hB64
          clear s59
          have hbt68 := hbt60.trans (hB64.mono hbt60.size)
          clear hbt60
          clear hB64
          go_wp2_with (refine wl_value rfl (exec_bdMs ⟨txt b 0, txt b 1, getN (txt b) 4 4, b.extract 8 b.size⟩ rfl rfl rfl rfl rfl) ?_; refine Hid.out ?_)
          refine Hid.mk ?_
          go_wp2_with (refine st_stO (V := msV (⟨txt b 0, txt b 1, getN (txt b) 4 4, b.extract 8 b.size⟩)) (g := g9) rfl rfl isMs (msV_one _) s67 rfl rfl ?_; intro w69 s69 ho69; refine Hid.out ?_)
          refine Hid.mk ?_
          clear s67
          have s70 := s65.only ho69 hn10
          clear s65
          have s71 := s66.only ho69 hn11
          clear s66
          have hbt72 := hbt68.trans (ho69.below hz12)
          clear hbt68
          clear ho69
          go_wp2_with fail
          have hI := rrd (b := b) HV2.out.1 HV3.out (by have := HS.out; have := HZ0.out; have := HDhb23.out; have := HDhb28.out; have := HZ34.out; have := HZ41.out; have := HZ42.out; have := HZ43.out; have := HZ44.out; have := HZ45.out; have := HZ46.out; have := HDhb52.out; have := HZ54.out; have := HU61.out; have := HU62.out; have := HZ63.out; omega)
          rw [← HT.out] at hI
          have hE : mRdE v1 b1 v2 b2 b = 0 := by unfold mRdE; rw [if_pos Hhb16.out, if_neg (by have := HS.out; have := HZ0.out; have := HDhb23.out; have := HDhb28.out; have := HZ34.out; have := HZ41.out; have := HZ42.out; have := HZ43.out; have := HZ44.out; have := HZ45.out; have := HZ46.out; have := HDhb52.out; have := HZ54.out; have := HU61.out; have := HU62.out; have := HZ63.out; omega), if_neg (fun h => h.elim (fun h => by have := HS.out; have := HDhb23.out; have := HDhb28.out; have := HDhb52.out; have := HU61.out; have := HU62.out; omega) (fun h => h (hI.1 (of_decide_eq_true Hhb52.out))))]
          have hM : mRdM v1 b1 v2 b2 b = ⟨txt b 0, txt b 1, getN (txt b) 4 4, b.extract 8 b.size⟩ := by unfold mRdM; rw [if_pos hE]
          refine bodyPost_ret (res_ct rfl isMs s69 (by rfl) (by rfl)) rfl ?_
          exact ⟨Eq.trans (rfl : _ = Ending.returned (.tuple #[.agg (SC 4 (msV (⟨txt b 0, txt b 1, getN (txt b) 4 4, b.extract 8 b.size⟩))), .int .i64 0])) (by rw [← HRV.out, hE, hM]), hbt72⟩
        · have Hhb52 := Hid.mk hb52
          clear hb52
          have HDhb52 := Hid.mk (of_decide_eq_false Hhb52.out)
          go_wp2_with (refine wl_value rfl (kn_n (c := true) Hhb52 (cmp_ne (m := sumT (psH v1 b1 b2 T.size ++ T)) (n := ((getN (txt b) 2 2 : Nat) : Int)) rfl rfl rfl)) ?_; refine Hid.out ?_)
          refine Hid.mk ?_
          go_wp2_with (refine wl_value rfl (exec_bdMs0 rfl) ?_; refine Hid.out ?_)
          refine Hid.mk ?_
          go_wp2_with (refine st_stO (V := msV ms0) (g := g9) rfl rfl isMs (msV_one _) s50 rfl rfl ?_; intro w73 s73 ho73; refine Hid.out ?_)
          refine Hid.mk ?_
          clear s50
          have s74 := s48.only ho73 hn10
          clear s48
          have s75 := s49.only ho73 hn11
          clear s49
          have hbt76 := hbt51.trans (ho73.below hz12)
          clear hbt51
          clear ho73
          go_wp2_with fail
          have hI := rrd (b := b) HV2.out.1 HV3.out (by have := HS.out; have := HZ0.out; have := HDhb23.out; have := HDhb28.out; have := HZ34.out; have := HZ41.out; have := HZ42.out; have := HZ43.out; have := HZ44.out; have := HZ45.out; have := HZ46.out; have := HDhb52.out; omega)
          rw [← HT.out] at hI
          have hE : mRdE v1 b1 v2 b2 b = 73 := by unfold mRdE; rw [if_pos Hhb16.out, if_neg (by have := HS.out; have := HZ0.out; have := HDhb23.out; have := HDhb28.out; have := HZ34.out; have := HZ41.out; have := HZ42.out; have := HZ43.out; have := HZ44.out; have := HZ45.out; have := HZ46.out; have := HDhb52.out; omega), if_pos (Or.inr (fun h => of_decide_eq_false Hhb52.out (hI.2 h)))]
          have hM : mRdM v1 b1 v2 b2 b = ms0 := by unfold mRdM; rw [if_neg (by rw [hE]; decide)]
          refine bodyPost_ret (res_ct rfl isMs s73 (by rfl) (by rfl)) rfl ?_
          exact ⟨Eq.trans (rfl : _ = Ending.returned (.tuple #[.agg (SC 4 (msV ms0)), .int .i64 73])) (by rw [← HRV.out, hE, hM]), hbt76⟩
  · have Hhb16 := Hid.mk hb16
    clear hb16
    have HC77 : Hid (Calls Tryd.prog 35 #[.agg (SC 17 (adV v1 b1)), .agg (SC 17 (adV v2 b2))] w9 fun e w' => e = .returned (.bool false) ∧ Below w9.heap.size w9 w') := Hid.mk (by have h := rends_run v1 b1 v2 b2 w9; rw [Hhb16.out] at h; exact h)
    go_wp2_with (refine wl_cal en_aditref15_ends HC77 rfl rfl (args2 rfl rfl) ?_; intro w78 hB78; refine Hid.out ?_)
    refine Hid.mk ?_
    clear HC77
    have s79 := s13.kept hB78
    clear s13
    have s80 := s14.kept hB78
    clear s14
    have s81 := s9.kept hB78
    clear s9
    have hbt82 := hbt15.trans (hB78.mono hbt15.size)
    clear hbt15
    clear hB78
    go_wp2_with (refine wl_value rfl (exec_bdMs0 rfl) ?_; refine Hid.out ?_)
    refine Hid.mk ?_
    go_wp2_with (refine st_stO (V := msV ms0) (g := g9) rfl rfl isMs (msV_one _) s81 rfl rfl ?_; intro w83 s83 ho83; refine Hid.out ?_)
    refine Hid.mk ?_
    clear s81
    have s84 := s79.only ho83 hn10
    clear s79
    have s85 := s80.only ho83 hn11
    clear s80
    have hbt86 := hbt82.trans (ho83.below hz12)
    clear hbt82
    clear ho83
    go_wp2_with fail
    have hE : mRdE v1 b1 v2 b2 b = 1 := by unfold mRdE; rw [if_neg (by rw [Hhb16.out]; decide)]
    have hM : mRdM v1 b1 v2 b2 b = ms0 := by unfold mRdM; rw [if_neg (by rw [hE]; decide)]
    refine bodyPost_ret (res_ct rfl isMs s83 (by rfl) (by rfl)) rfl ?_
    exact ⟨Eq.trans (rfl : _ = Ending.returned (.tuple #[.agg (SC 4 (msV ms0)), .int .i64 1])) (by rw [← HRV.out, hE, hM]), hbt86⟩
end Go.Proofs.YtojekoakgpkkdaaDoor

/-
  Own text. A message becomes its bytes, and bytes are read, as the document says.
-/
namespace Go.Proofs.YtojekoakgpkkdaaDoor
open Go.RowKit Go.Proofs
set_option maxRecDepth 100000
theorem en_aditlaw15_awake (args : Array Value) (w : World) : (callFunc 8 args).run Tryd.prog w = .ok (.enter 8 args) w := by kernel_rfl
theorem en_aditref15_Build (args : Array Value) (w : World) : (callFunc 10 args).run Tryd.prog w = .ok (.enter 10 args) w := by kernel_rfl
theorem en_aditref15_Parse (args : Array Value) (w : World) : (callFunc 12 args).run Tryd.prog w = .ok (.enter 12 args) w := by kernel_rfl
theorem eqfF {f : Field} {fs : List Field} {xs ys : Array Value} {d n : Nat} {nm : String} {t o : Nat} {w : World} {u v : Value} {z r : Bool} (hf : (f.name, f.type, f.offset) = (nm, t, o)) (hn : nm ≠ "_") (hp : (part t xs o).run Tryd.prog w = .ok u w) (hq : (part t ys o).run Tryd.prog w = .ok v w) (he : (Op.equalIn d t u v).run Tryd.prog w = .ok z w) (hr : (Op.eqFields d xs ys fs).run Tryd.prog w = .ok r w) (hd : n = d) : (Op.eqFields n xs ys (f :: fs)).run Tryd.prog w = .ok (z && r) w := by
  subst hd
  simp only [Prod.mk.injEq] at hf
  obtain ⟨n0, t0, o0⟩ := hf
  simp only [Op.eqFields, n0, t0, o0, if_pos hn, Sem.run_bind, hp, hq, Result.andThen_ok, he]
  cases z
  · simp
  · simp [hr]
theorem four_of {α β : Type} {g : α → β} {l : List α} {x y z u : β} (h : l.map g = [x, y, z, u]) : ∃ a b c d, l = [a, b, c, d] ∧ g a = x ∧ g b = y ∧ g c = z ∧ g d = u := by
  match l, h with
  | [a, b, c, d], h => simp at h; exact ⟨a, b, c, d, rfl, h.1, h.2.1, h.2.2.1, h.2.2.2⟩
  | [], h => simp at h
  | [_], h => simp at h
  | [_, _], h => simp at h
  | [_, _, _], h => simp at h
  | _ :: _ :: _ :: _ :: _ :: _, h => simp at h
theorem nil_fields (d : Nat) (xs ys : Array Value) (w : World) : (Op.eqFields d xs ys []).run Tryd.prog w = .ok true w := by simp [Op.eqFields]
theorem fieldsMs : (Tryd.prog.fieldsOf 27).toList.map (fun f => (f.name, f.type, f.offset)) = [("Type", 3, 0), ("Code", 3, 1), ("Rest", 25, 2), ("Body", 9, 3)] := by kernel_rfl
theorem stoodMs : Tryd.prog.stoodInHeld 27 = false := by kernel_rfl
theorem partMs0 (m : Ms) (w : World) : (part 3 (SC 4 (msV m)) 0).run Tryd.prog w = .ok (.int .i64 m.typ) w := by kernel_rfl
theorem partMs1 (m : Ms) (w : World) : (part 3 (SC 4 (msV m)) 1).run Tryd.prog w = .ok (.int .i64 m.code) w := by kernel_rfl
theorem partMs2 (m : Ms) (w : World) : (part 25 (SC 4 (msV m)) 2).run Tryd.prog w = .ok (.int .u32 (m.rest : Int)) w := by kernel_rfl
theorem partMs3 (m : Ms) (w : World) : (part 9 (SC 4 (msV m)) 3).run Tryd.prog w = .ok (.string m.body) w := by kernel_rfl
theorem equal_ms (m : Ms) (w : World) : (Op.equalIn 10000 27 (.agg (SC 4 (msV m))) (.agg (SC 4 (msV m)))).run Tryd.prog w = .ok true w := by
  have hdec : ((m.typ == m.typ) && ((m.code == m.code) && (((m.rest : Int) == (m.rest : Int)) && ((m.body.toList == m.body.toList) && true)))) = true := by simp
  rw [← hdec, show (10000 : Nat) = 9998 + 1 + 1 from rfl, run_equalIn_struct w (9998 + 1) 27 _ _ Tryd.underlying27 stoodMs]
  obtain ⟨f0, f1, f2, f3, hl, h0, h1, h2, h3⟩ := four_of fieldsMs
  rw [hl]
  exact eqfF h0 (by decide) (partMs0 m w) (partMs0 m w) (run_equalIn_int w 9998 3 .i64 .i64 _ _ Tryd.underlying3)
    (eqfF h1 (by decide) (partMs1 m w) (partMs1 m w) (run_equalIn_int w 9998 3 .i64 .i64 _ _ Tryd.underlying3)
    (eqfF h2 (by decide) (partMs2 m w) (partMs2 m w) (run_equalIn_int w 9998 25 .u32 .u32 _ _ Tryd.underlying25)
    (eqfF h3 (by decide) (partMs3 m w) (partMs3 m w) (run_equalIn_string w 9998 9 _ _ Tryd.underlying9) (nil_fields _ _ _ w) rfl) rfl) rfl) rfl
theorem eqgMs : Tryd.prog.eqGuardType Tryd.prog.depth 27 = false := by kernel_rfl
section
variable {a : Act} {o : Oper} {w : World} {x y : Operand} {t : TypeId}
theorem exec_eqMs (ho : o.op = .binOp .eql 27 x y t) {m : Ms} (hx : a.eval x = .agg (SC 4 (msV m))) (hy : a.eval y = .agg (SC 4 (msV m))) : (execOp a.eval o).run Tryd.prog w = .ok (.value (.bool true)) w := by
  unfold execOp
  simp only [ho, hx, hy, Sem.run_bind, run_eqGuard_agg w .eql 27 x y _ _ eqgMs, Result.andThen_ok, run_eql_struct, equal_ms m w, Sem.run_pure]
theorem exec_neMs (ho : o.op = .binOp .neq 27 x y t) {m : Ms} (hx : a.eval x = .agg (SC 4 (msV m))) (hy : a.eval y = .agg (SC 4 (msV m))) : (execOp a.eval o).run Tryd.prog w = .ok (.value (.bool false)) w := by
  unfold execOp
  simp only [ho, hx, hy, Sem.run_bind, run_eqGuard_agg w .neq 27 x y _ _ eqgMs, Result.andThen_ok, run_neq_struct, equal_ms m w, Sem.run_pure]
  rfl
theorem exec_neSs (ho : o.op = .binOp .neq 9 x y 9) {s : ByteArray} (hx : a.eval x = .string s) (hy : a.eval y = .string s) : (execOp a.eval o).run Tryd.prog w = .ok (.value (.bool false)) w := by
  have := cmp_neS (w := w) ho hx hy
  rwa [decide_eq_true rfl] at this
theorem exec_neEs (ho : o.op = .binOp .neq 31 x y 31) {n : Int} (hx : a.eval x = .int .i64 n) (hy : a.eval y = .int .i64 n) : (execOp a.eval o).run Tryd.prog w = .ok (.value (.bool false)) w := by
  have := cmp_neE (w := w) ho hx hy
  rwa [decide_eq_true rfl] at this
end
/-- The cells of an address and a text. -/
def byV (v : Bool) (b : Nat → Int) (s : ByteArray) (j : Nat) : Value := if j < 17 then adV v b j else .string s
theorem isBy : IsSt 29 18 := ⟨_, Tryd.underlying29, rfl, by kernel_rfl⟩
section
variable {a : Act} {o : Oper} {w : World} {x : Operand} {g : Nat} {v : Bool} {b : Nat → Int} {s : ByteArray}
theorem exec_fby0 (ho : o.op = .fieldAddr 29 x 0) (hx : a.eval x = .pointer (some ⟨g, 0, none⟩)) : (execOp a.eval o).run Tryd.prog w = .ok (.value (.pointer (some ⟨g, 0, none⟩))) w := by
  have h : (Instr.fieldAt 29 (.pointer (some ⟨g, 0, none⟩)) 0).run Tryd.prog w = .ok (.pointer (some ⟨g, 0, none⟩)) w := by simp [go_sem]
  unfold execOp
  simp only [ho, hx, Sem.run_bind, h, Result.andThen_ok, Sem.run_pure]
theorem exec_fby1 (ho : o.op = .fieldAddr 29 x 1) (hx : a.eval x = .pointer (some ⟨g, 0, none⟩)) : (execOp a.eval o).run Tryd.prog w = .ok (.value (.pointer (some ⟨g, 17, none⟩))) w := by
  have h : (Instr.fieldAt 29 (.pointer (some ⟨g, 0, none⟩)) 1).run Tryd.prog w = .ok (.pointer (some ⟨g, 17, none⟩)) w := by simp [go_sem]
  unfold execOp
  simp only [ho, hx, Sem.run_bind, h, Result.andThen_ok, Sem.run_pure]
theorem by_s (h : SAt w g 29 18 (byV v b s)) : w.cell? ⟨g, 17, none⟩ = some (.string s) := h.at 17 (by decide)
theorem ld_by (h : SAt w g 29 18 (byV v b s)) : (Instr.loadAt 24 (.pointer (some ⟨g, 0, none⟩))).run Tryd.prog w = .ok (.agg (SC 17 (adV v b))) w := ld_cells isAddr (fun j hj => by
  have := h.at j (by omega)
  unfold byV at this
  rw [if_pos hj] at this
  exact this)
end
theorem bldT_lt (v1 : Bool) (b1 : Nat → Int) (v2 : Bool) (b2 : Nat → Int) (m : Ms) : (mBldT v1 b1 v2 b2 m).size < 4611686018427387904 := by
  unfold mBldT
  split
  · rename_i h
    rw [laid_size, msA_size, msR_size]
    have : m.body.size ≤ 65507 := by
      unfold mBldE at h
      split at h
      · split at h
        · cases h
        · omega
      · cases h
    omega
  · decide
set_option linter.unusedSimpArgs false in
set_option maxHeartbeats 8000000 in
theorem bytes_walk (v1 : Bool) (b1 : Nat → Int) (m : Ms) (v2 : Bool) (b2 : Nat → Int) (b : ByteArray) (w : World) (he : Env w) (hb1 : Byts 16 b1) (hb2 : Byts 16 b2) (hr : m.rest < 4294967296) (hs : b.size < 4611686018427387904) : Calls Tryd.prog 3 #[.agg (SC 17 (adV v1 b1)), .agg (SC 4 (msV m)), .agg (SC 18 (byV v2 b2 b))] w fun e w' => e = .returned (.bool true) ∧ Below w.heap.size w w' := by
  generalize hRV : (.bool true : Value) = RV
  have HRV := Hid.mk hRV
  clear hRV
  have HE := Hid.mk he
  clear he
  have HR := Hid.mk hr
  have HS := Hid.mk hs
  clear hr hs
  go_enter Tryd.func3, Tryd.ntmps3
  go_wp2_with (refine wl_boxO (V := adV v1 b1) rfl rfl isAddr rfl ?_; intro g1 w1 hg1 s1 hB1; refine Hid.out ?_)
  refine Hid.mk ?_
  have hz2 : w.heap.size ≤ g1 := by omega
  have hbt3 := hB1
  clear hB1 hg1
  go_wp2_with (refine wl_boxO (V := msV m) rfl rfl isMs rfl ?_; intro g4 w4 hg4 s4 hB4; refine Hid.out ?_)
  refine Hid.mk ?_
  have hn5 : g1 ≠ g4 := by have := s1.lt; omega
  have hz6 : w.heap.size ≤ g4 := by have := hbt3.size; omega
  have s7 := s1.kept hB4
  clear s1
  have hbt8 := hbt3.trans (hB4.mono hbt3.size)
  clear hbt3
  clear hB4 hg4
  go_wp2_with (refine wl_boxO (V := byV v2 b2 b) rfl rfl isBy rfl ?_; intro g9 w9 hg9 s9 hB9; refine Hid.out ?_)
  refine Hid.mk ?_
  have hn10 : g1 ≠ g9 := by have := s7.lt; omega
  have hn11 : g4 ≠ g9 := by have := s4.lt; omega
  have hz12 : w.heap.size ≤ g9 := by have := hbt8.size; omega
  have s13 := s7.kept hB9
  clear s7
  have s14 := s4.kept hB9
  clear s4
  have hbt15 := hbt8.trans (hB9.mono hbt8.size)
  clear hbt8
  clear hB9 hg9
  have HC16 : Hid (Calls Tryd.prog 8 #[] w9 fun e w' => e = .returned (.bool true) ∧ Below w9.heap.size w9 w') := Hid.mk (awake_run w9 (Env.kept HE.out hbt15))
  go_wp2_with (refine wl_cal en_aditlaw15_awake HC16 rfl rfl (args0) ?_; intro w17 hB17; refine Hid.out ?_)
  refine Hid.mk ?_
  clear HC16
  have s18 := s13.kept hB17
  clear s13
  have s19 := s14.kept hB17
  clear s14
  have s20 := s9.kept hB17
  clear s9
  have hbt21 := hbt15.trans (hB17.mono hbt15.size)
  clear hbt15
  clear hB17
  go_wp2_with (refine wl_value rfl (look_st rfl isAddr s18 rfl) ?_; refine Hid.out ?_)
  refine Hid.mk ?_
  go_wp2_with (refine wl_value rfl (exec_fby0 rfl rfl) ?_; refine Hid.out ?_)
  refine Hid.mk ?_
  go_wp2_with (refine wl_value rfl (exec_ld rfl rfl (ld_by s20)) ?_; refine Hid.out ?_)
  refine Hid.mk ?_
  go_wp2_with (refine wl_value rfl (look_st rfl isMs s19 rfl) ?_; refine Hid.out ?_)
  refine Hid.mk ?_
  have HC22 : Hid (Calls Tryd.prog 9 #[.agg (SC 17 (adV v1 b1)), .agg (SC 17 (adV v2 b2)), .agg (SC 4 (msV m))] w17 fun e w' => e = .returned (.tuple #[.string (mBldT v1 b1 v2 b2 m), .int .i64 (mBldE v1 b1 v2 b2 m)]) ∧ Below w17.heap.size w17 w') := Hid.mk (iBuild_run v1 b1 v2 b2 m w17 hb1 hb2 HR.out)
  go_wp2_with (refine wl_cal en_icmp_Build HC22 rfl rfl (args3 rfl rfl rfl) ?_; intro w23 hB23; refine Hid.out ?_)
  refine Hid.mk ?_
  clear HC22
  have s24 := s18.kept hB23
  clear s18
  have s25 := s19.kept hB23
  clear s19
  have s26 := s20.kept hB23
  clear s20
  have hbt27 := hbt21.trans (hB23.mono hbt21.size)
  clear hbt21
  clear hB23
  go_wp2_with (refine wl_value rfl (look_st rfl isAddr s24 rfl) ?_; refine Hid.out ?_)
  refine Hid.mk ?_
  go_wp2_with (refine wl_value rfl (exec_fby0 rfl rfl) ?_; refine Hid.out ?_)
  refine Hid.mk ?_
  go_wp2_with (refine wl_value rfl (exec_ld rfl rfl (ld_by s26)) ?_; refine Hid.out ?_)
  refine Hid.mk ?_
  go_wp2_with (refine wl_value rfl (look_st rfl isMs s25 rfl) ?_; refine Hid.out ?_)
  refine Hid.mk ?_
  have HC28 : Hid (Calls Tryd.prog 10 #[.agg (SC 17 (adV v1 b1)), .agg (SC 17 (adV v2 b2)), .agg (SC 4 (msV m))] w23 fun e w' => e = .returned (.tuple #[.string (mBldT v1 b1 v2 b2 m), .int .i64 (mBldE v1 b1 v2 b2 m)]) ∧ Below w23.heap.size w23 w') := Hid.mk (dBuild_run v1 b1 v2 b2 m w23 hb1 hb2 HR.out)
  go_wp2_with (refine wl_cal en_aditref15_Build HC28 rfl rfl (args3 rfl rfl rfl) ?_; intro w29 hB29; refine Hid.out ?_)
  refine Hid.mk ?_
  clear HC28
  have s30 := s24.kept hB29
  clear s24
  have s31 := s25.kept hB29
  clear s25
  have s32 := s26.kept hB29
  clear s26
  have hbt33 := hbt27.trans (hB29.mono hbt27.size)
  clear hbt27
  clear hB29
  go_wp2_with (refine wl_value rfl (look_st rfl isAddr s30 rfl) ?_; refine Hid.out ?_)
  refine Hid.mk ?_
  go_wp2_with (refine wl_value rfl (exec_fby0 rfl rfl) ?_; refine Hid.out ?_)
  refine Hid.mk ?_
  go_wp2_with (refine wl_value rfl (exec_ld rfl rfl (ld_by s32)) ?_; refine Hid.out ?_)
  refine Hid.mk ?_
  go_wp2_with (refine wl_value rfl (exec_fby1 rfl rfl) ?_; refine Hid.out ?_)
  refine Hid.mk ?_
  go_wp2_with (refine wl_value rfl (exec_ld rfl rfl (ldS (by_s s32))) ?_; refine Hid.out ?_)
  refine Hid.mk ?_
  have HC34 : Hid (Calls Tryd.prog 11 #[.agg (SC 17 (adV v1 b1)), .agg (SC 17 (adV v2 b2)), .string b] w29 fun e w' => e = .returned (.tuple #[.agg (SC 4 (msV (mRdM v1 b1 v2 b2 b))), .int .i64 (mRdE v1 b1 v2 b2 b)]) ∧ Below w29.heap.size w29 w') := Hid.mk (iParse_run v1 b1 v2 b2 b w29 hb1 hb2 (by have := HS.out; omega))
  go_wp2_with (refine wl_cal en_icmp_Parse HC34 rfl rfl (args3 rfl rfl rfl) ?_; intro w35 hB35; refine Hid.out ?_)
  refine Hid.mk ?_
  clear HC34
  have s36 := s30.kept hB35
  clear s30
  have s37 := s31.kept hB35
  clear s31
  have s38 := s32.kept hB35
  clear s32
  have hbt39 := hbt33.trans (hB35.mono hbt33.size)
  clear hbt33
  clear hB35
  go_wp2_with (refine wl_alO (V := msV ms0) rfl rfl zeroMs ?_; intro g40 w40 hg40 s40 hB40; refine Hid.out ?_)
  refine Hid.mk ?_
  have hn41 : g1 ≠ g40 := by have := s36.lt; omega
  have hn42 : g4 ≠ g40 := by have := s37.lt; omega
  have hn43 : g9 ≠ g40 := by have := s38.lt; omega
  have hz44 : w.heap.size ≤ g40 := by have := hbt39.size; omega
  have s45 := s36.kept hB40
  clear s36
  have s46 := s37.kept hB40
  clear s37
  have s47 := s38.kept hB40
  clear s38
  have hbt48 := hbt39.trans (hB40.mono hbt39.size)
  clear hbt39
  clear hB40 hg40
  go_wp2_with (refine st_stO (V := msV (mRdM v1 b1 v2 b2 b)) (g := g40) rfl rfl isMs (msV_one _) s40 rfl rfl ?_; intro w49 s49 ho49; refine Hid.out ?_)
  refine Hid.mk ?_
  clear s40
  have s50 := s45.only ho49 hn41
  clear s45
  have s51 := s46.only ho49 hn42
  clear s46
  have s52 := s47.only ho49 hn43
  clear s47
  have hbt53 := hbt48.trans (ho49.below hz44)
  clear hbt48
  clear ho49
  go_wp2_with (refine wl_value rfl (look_st rfl isAddr s50 rfl) ?_; refine Hid.out ?_)
  refine Hid.mk ?_
  go_wp2_with (refine wl_value rfl (exec_fby0 rfl rfl) ?_; refine Hid.out ?_)
  refine Hid.mk ?_
  go_wp2_with (refine wl_value rfl (exec_ld rfl rfl (ld_by s52)) ?_; refine Hid.out ?_)
  refine Hid.mk ?_
  go_wp2_with (refine wl_value rfl (exec_fby1 rfl rfl) ?_; refine Hid.out ?_)
  refine Hid.mk ?_
  go_wp2_with (refine wl_value rfl (exec_ld rfl rfl (ldS (by_s s52))) ?_; refine Hid.out ?_)
  refine Hid.mk ?_
  have HC54 : Hid (Calls Tryd.prog 12 #[.agg (SC 17 (adV v1 b1)), .agg (SC 17 (adV v2 b2)), .string b] w49 fun e w' => e = .returned (.tuple #[.agg (SC 4 (msV (mRdM v1 b1 v2 b2 b))), .int .i64 (mRdE v1 b1 v2 b2 b)]) ∧ Below w49.heap.size w49 w') := Hid.mk (dParse_run v1 b1 v2 b2 b w49 hb1 hb2 (by have := HS.out; omega))
  go_wp2_with (refine wl_cal en_aditref15_Parse HC54 rfl rfl (args3 rfl rfl rfl) ?_; intro w55 hB55; refine Hid.out ?_)
  refine Hid.mk ?_
  clear HC54
  have s56 := s50.kept hB55
  clear s50
  have s57 := s51.kept hB55
  clear s51
  have s58 := s52.kept hB55
  clear s52
  have s59 := s49.kept hB55
  clear s49
  have hbt60 := hbt53.trans (hB55.mono hbt53.size)
  clear hbt53
  clear hB55
  go_wp2_with (refine wl_alO (V := msV ms0) rfl rfl zeroMs ?_; intro g61 w61 hg61 s61 hB61; refine Hid.out ?_)
  refine Hid.mk ?_
  have hn62 : g1 ≠ g61 := by have := s56.lt; omega
  have hn63 : g4 ≠ g61 := by have := s57.lt; omega
  have hn64 : g9 ≠ g61 := by have := s58.lt; omega
  have hn65 : g40 ≠ g61 := by have := s59.lt; omega
  have hz66 : w.heap.size ≤ g61 := by have := hbt60.size; omega
  have s67 := s56.kept hB61
  clear s56
  have s68 := s57.kept hB61
  clear s57
  have s69 := s58.kept hB61
  clear s58
  have s70 := s59.kept hB61
  clear s59
  have hbt71 := hbt60.trans (hB61.mono hbt60.size)
  clear hbt60
  clear hB61 hg61
  go_wp2_with (refine st_stO (V := msV (mRdM v1 b1 v2 b2 b)) (g := g61) rfl rfl isMs (msV_one _) s61 rfl rfl ?_; intro w72 s72 ho72; refine Hid.out ?_)
  refine Hid.mk ?_
  clear s61
  have s73 := s67.only ho72 hn62
  clear s67
  have s74 := s68.only ho72 hn63
  clear s68
  have s75 := s69.only ho72 hn64
  clear s69
  have s76 := s70.only ho72 hn65
  clear s70
  have hbt77 := hbt71.trans (ho72.below hz66)
  clear hbt71
  clear ho72
  go_wp2_with (refine wl_value rfl (exec_neSs rfl rfl rfl) ?_; refine Hid.out ?_)
  refine Hid.mk ?_
  go_wp2_with (refine wl_value rfl (exec_neEs rfl rfl rfl) ?_; refine Hid.out ?_)
  refine Hid.mk ?_
  go_wp2_with (refine wl_value rfl (look_st rfl isMs s76 rfl) ?_; refine Hid.out ?_)
  refine Hid.mk ?_
  go_wp2_with (refine wl_value rfl (look_st rfl isMs s72 rfl) ?_; refine Hid.out ?_)
  refine Hid.mk ?_
  go_wp2_with (refine wl_value rfl (exec_neMs rfl rfl rfl) ?_; refine Hid.out ?_)
  refine Hid.mk ?_
  go_wp2_with (refine wl_value rfl (exec_neEs rfl rfl rfl) ?_; refine Hid.out ?_)
  refine Hid.mk ?_
  rcases Bool.eq_false_or_eq_true (decide (mBldE v1 b1 v2 b2 m = 0)) with hb78 | hb78
  · have Hhb78 := Hid.mk hb78
    clear hb78
    have HDhb78 := Hid.mk (of_decide_eq_true Hhb78.out)
    go_wp2_with (refine wl_value rfl (kn_n (c := false) Hhb78 (cmp_neE (m := mBldE v1 b1 v2 b2 m) (n := 0) rfl rfl rfl)) ?_; refine Hid.out ?_)
    refine Hid.mk ?_
    go_wp2_with (refine wl_value rfl (look_st rfl isAddr s73 rfl) ?_; refine Hid.out ?_)
    refine Hid.mk ?_
    go_wp2_with (refine wl_value rfl (exec_fby0 rfl rfl) ?_; refine Hid.out ?_)
    refine Hid.mk ?_
    go_wp2_with (refine wl_value rfl (exec_ld rfl rfl (ld_by s75)) ?_; refine Hid.out ?_)
    refine Hid.mk ?_
    have HRD := Hid.mk (rd_bldM (of_decide_eq_true Hhb78.out) HR.out)
    have HC79 : Hid (Calls Tryd.prog 11 #[.agg (SC 17 (adV v1 b1)), .agg (SC 17 (adV v2 b2)), .string (mBldT v1 b1 v2 b2 m)] w72 fun e w' => e = .returned (.tuple #[.agg (SC 4 (msV m)), .int .i64 0]) ∧ Below w72.heap.size w72 w') := Hid.mk (by have h := iParse_run v1 b1 v2 b2 (mBldT v1 b1 v2 b2 m) w72 hb1 hb2 (bldT_lt v1 b1 v2 b2 m); rw [HRD.out.1, HRD.out.2] at h; exact h)
    go_wp2_with (refine wl_cal en_icmp_Parse HC79 rfl rfl (args3 rfl rfl rfl) ?_; intro w80 hB80; refine Hid.out ?_)
    refine Hid.mk ?_
    clear HC79
    have s81 := s73.kept hB80
    clear s73
    have s82 := s74.kept hB80
    clear s74
    have s83 := s75.kept hB80
    clear s75
    have s84 := s76.kept hB80
    clear s76
    have s85 := s72.kept hB80
    clear s72
    have hbt86 := hbt77.trans (hB80.mono hbt77.size)
    clear hbt77
    clear hB80
    go_wp2_with (refine wl_alO (V := msV ms0) rfl rfl zeroMs ?_; intro g87 w87 hg87 s87 hB87; refine Hid.out ?_)
    refine Hid.mk ?_
    have hn88 : g1 ≠ g87 := by have := s81.lt; omega
    have hn89 : g4 ≠ g87 := by have := s82.lt; omega
    have hn90 : g9 ≠ g87 := by have := s83.lt; omega
    have hn91 : g40 ≠ g87 := by have := s84.lt; omega
    have hn92 : g61 ≠ g87 := by have := s85.lt; omega
    have hz93 : w.heap.size ≤ g87 := by have := hbt86.size; omega
    have s94 := s81.kept hB87
    clear s81
    have s95 := s82.kept hB87
    clear s82
    have s96 := s83.kept hB87
    clear s83
    have s97 := s84.kept hB87
    clear s84
    have s98 := s85.kept hB87
    clear s85
    have hbt99 := hbt86.trans (hB87.mono hbt86.size)
    clear hbt86
    clear hB87 hg87
    go_wp2_with (refine st_stO (V := msV m) (g := g87) rfl rfl isMs (msV_one _) s87 rfl rfl ?_; intro w100 s100 ho100; refine Hid.out ?_)
    refine Hid.mk ?_
    clear s87
    have s101 := s94.only ho100 hn88
    clear s94
    have s102 := s95.only ho100 hn89
    clear s95
    have s103 := s96.only ho100 hn90
    clear s96
    have s104 := s97.only ho100 hn91
    clear s97
    have s105 := s98.only ho100 hn92
    clear s98
    have hbt106 := hbt99.trans (ho100.below hz93)
    clear hbt99
    clear ho100
    have HK107 : Hid (decide (0 = 0) = true) := Hid.mk (by decide)
    go_wp2_with (refine wl_value rfl (kn_ (c := true) HK107 (cmp_eqE (m := 0) (n := 0) rfl rfl rfl)) ?_; refine Hid.out ?_)
    refine Hid.mk ?_
    go_wp2_with (refine wl_value rfl (look_st rfl isMs s100 rfl) ?_; refine Hid.out ?_)
    refine Hid.mk ?_
    go_wp2_with (refine wl_value rfl (look_st rfl isMs s102 rfl) ?_; refine Hid.out ?_)
    refine Hid.mk ?_
    go_wp2_with (refine wl_value rfl (exec_eqMs rfl rfl rfl) ?_; refine Hid.out ?_)
    refine Hid.mk ?_
    go_wp2_with fail
    go_ret
    exact ⟨Eq.trans (rfl : _ = Ending.returned (.bool true)) (by rw [← HRV.out]), hbt106⟩
  · have Hhb78 := Hid.mk hb78
    clear hb78
    have HDhb78 := Hid.mk (of_decide_eq_false Hhb78.out)
    go_wp2_with (refine wl_value rfl (kn_n (c := true) Hhb78 (cmp_neE (m := mBldE v1 b1 v2 b2 m) (n := 0) rfl rfl rfl)) ?_; refine Hid.out ?_)
    refine Hid.mk ?_
    go_wp2_with fail
    go_ret
    exact ⟨Eq.trans (rfl : _ = Ending.returned (.bool true)) (by rw [← HRV.out]), hbt77⟩
end Go.Proofs.YtojekoakgpkkdaaDoor

/-
  Own text. Addresses, messages, and bytes with an address, as arguments.
-/
namespace Go.Proofs.YtojekoakgpkkdaaDoor
open Go.ChangeShapes Go.WideShapes Go.ChangeAt Go.WideMaps Go.WideElems Go.RowKit Go.Proofs
set_option maxRecDepth 100000
theorem byF : ∃ f0 f1 : Field, Tryd.prog.underlying 29 = some (.struct #[f0, f1]) ∧ f0.type = 24 ∧ f1.type = 9 ∧ f0.offset = 0 ∧ f1.offset = 17 := ⟨_, _, Tryd.underlying29, rfl, rfl, rfl, rfl⟩
theorem msF : ∃ f0 f1 f2 f3 : Field, Tryd.prog.underlying 27 = some (.struct #[f0, f1, f2, f3]) ∧ (f0.type = 3 ∧ f0.offset = 0) ∧ (f1.type = 3 ∧ f1.offset = 1) ∧ (f2.type = 25 ∧ f2.offset = 2) ∧ (f3.type = 9 ∧ f3.offset = 3) := ⟨_, _, _, _, Tryd.underlying27, ⟨rfl, rfl⟩, ⟨rfl, rfl⟩, ⟨rfl, rfl⟩, ⟨rfl, rfl⟩⟩
theorem cBy : Tryd.prog.cellsOf 29 = 18 := by kernel_rfl
theorem cMs : Tryd.prog.cellsOf 27 = 4 := by kernel_rfl
theorem c32 : Tryd.prog.cellsOf 25 = 1 := by kernel_rfl
section
variable {H : Type} {enc : TypeId × Value → H} {W : World} {base : Nat} {sp : Nat → Bool} {v : Value} {d : DataW H} {p : List MemPlace}
theorem open_ad (hv : Value.okWide Tryd.prog W .any base 24 v) (h : DataW.Trod enc Tryd.prog W 0 sp true 24 v d p) : ∃ u b, Byts 16 b ∧ v = .agg (SC 17 (adV u b)) := by
  obtain ⟨cs, rfl, hsz, _⟩ : ∃ cs, v = .agg cs ∧ cs.size = Tryd.prog.cellsOf 24 ∧ Row.okWide Tryd.prog W .any base 24 cs := by
    simpa [Value.okWide, Tryd.underlying24] using hv
  obtain ⟨fuel, hf⟩ := h
  obtain ⟨u, b, hb, hc⟩ := trod_ad hf
  rw [cAd] at hsz
  exact ⟨u, b, hb, congrArg Value.agg (Array.toList_inj.1 (sc_list (by simpa using hsz) hc))⟩
theorem open_ms (hv : Value.okWide Tryd.prog W .any base 27 v) (h : DataW.Trod enc Tryd.prog W 0 sp true 27 v d p) : ∃ m : Ms, m.rest < 4294967296 ∧ v = .agg (SC 4 (msV m)) := by
  obtain ⟨cs, rfl, hsz, _⟩ : ∃ cs, v = .agg cs ∧ cs.size = Tryd.prog.cellsOf 27 ∧ Row.okWide Tryd.prog W .any base 27 cs := by
    simpa [Value.okWide, Tryd.underlying27] using hv
  obtain ⟨fuel, hf⟩ := h
  obtain ⟨f0, f1, f2, f3, hu, ⟨e0, o0⟩, ⟨e1, o1⟩, ⟨e2, o2⟩, ⟨e3, o3⟩⟩ := msF
  obtain ⟨xs, n', _, hxx, hl, hxl, hff⟩ := DataW.trod_struct hu hf
  obtain ⟨y0, y1, y2, y3, rfl⟩ : ∃ y0 y1 y2 y3, xs = [y0, y1, y2, y3] := by
    match xs, hxl with
    | [a0, a1, a2, a3], _ => exact ⟨_, _, _, _, rfl⟩
  have g0 := hff 0 f0 rfl
  rw [e0, o0, cIn] at g0
  have g1 := hff 1 f1 rfl
  rw [e1, o1, cIn] at g1
  have g2 := hff 2 f2 rfl
  rw [e2, o2, c32] at g2
  have g3 := hff 3 f3 rfl
  rw [e3, o3, cSt] at g3
  obtain ⟨ty, h0, _, _⟩ := DataW.trod_int Tryd.underlying3 g0
  obtain ⟨co, h1, _, _⟩ := DataW.trod_int Tryd.underlying3 g1
  obtain ⟨re, h2, _, w2⟩ := DataW.trod_int Tryd.underlying25 g2
  obtain ⟨bo, h3, _, _⟩ := DataW.trod_string Tryd.underlying9 g3
  have hw2 := bounds_u32 w2
  rw [cMs] at hsz
  refine ⟨⟨ty, co, re.toNat, bo⟩, by show re.toNat < _; omega, congrArg Value.agg (Array.toList_inj.1 (sc_list (by simpa using hsz) (fun i hi => ?_)))⟩
  match i, hi with
  | 0, _ => exact tk1 h0
  | 1, _ => exact tk1 h1
  | 2, _ =>
    have e : cs.toList[2]? = some (.int .u32 re) := tk1 h2
    rw [e]
    show some (Value.int .u32 re) = some (.int .u32 ((re.toNat : Nat) : Int))
    rw [Int.toNat_of_nonneg hw2.1]
  | 3, _ => exact tk1 h3
theorem open_by (hv : Value.okWide Tryd.prog W .any base 29 v) (h : DataW.Trod enc Tryd.prog W 0 sp true 29 v d p) : ∃ u b s, Byts 16 b ∧ v = .agg (SC 18 (byV u b s)) ∧ ((∀ n ∈ d.weights Tryd.prog 29, n ≤ reachBytes) → s.size < 4611686018427387904) := by
  obtain ⟨cs, rfl, hsz, _⟩ : ∃ cs, v = .agg cs ∧ cs.size = Tryd.prog.cellsOf 29 ∧ Row.okWide Tryd.prog W .any base 29 cs := by
    simpa [Value.okWide, Tryd.underlying29] using hv
  obtain ⟨fuel, hf⟩ := h
  obtain ⟨f0, f1, hu, e0, e1, o0, o1⟩ := byF
  obtain ⟨y0, y1, n', hx, hl, h0, h1⟩ := trod_struct2 hu hf
  rw [e0, o0, cAd] at h0
  rw [e1, o1, cSt] at h1
  obtain ⟨u, b, hb, hc⟩ := trod_ad h0
  obtain ⟨s, hs, k1, _⟩ := DataW.trod_string Tryd.underlying9 h1
  rw [cBy] at hsz
  refine ⟨u, b, s, hb, congrArg Value.agg (Array.toList_inj.1 (sc_list (by simpa using hsz) (fun i hi => ?_))), fun hW => ?_⟩
  · unfold byV
    by_cases hi2 : i < 17
    · rw [if_pos hi2]
      have := hc i hi2
      rw [tkN hi2, Nat.zero_add] at this
      exact this
    · obtain rfl : i = 17 := by omega
      rw [if_neg hi2]
      exact tk1 hs
  · have hd : d = .agg [y0.1, y1.1] := congrArg Prod.fst hx
    have := hW s.size (by
      rw [hd]
      unfold DataW.weights
      rw [hu]
      have hk : s.size ∈ DataW.weights Tryd.prog 9 y1.1 := by
        rw [k1]
        unfold DataW.weights
        exact List.mem_singleton.2 rfl
      exact DataW.weights_mem_each (j := 1) (t := 9) (by rw [← e1]; rfl) rfl _ hk)
    have hr : reachBytes = 140737488351232 := rfl
    omega
end
end Go.Proofs.YtojekoakgpkkdaaDoor

