/-
  Own text. The program's own parsePairs.
-/
import Derived.Test.YtklgpmpmolphaaaDoorJ4
import Derived.Test.YtklgpmpmolphaaaDoorJ3
import Derived.Test.YtklgpmpmolphaaaDoorRows
import Derived.Test.YtklgpmpmolphaaaDoorTie
import Derived.Test.YtklgpmpmolphaaaDoorCards
import Derived.ProofKit
import Derived.LaidMore
import Derived.OpenShut
import Derived.Stop.Joined
import Derived.Stop.LaidErr
import Derived.SevenTiedAt
import Derived.Deep.DeepHandedRow
import Derived.Lib.LaidTab
import Derived.Shelf.Vars
import Derived.LaidLaws
import Derived.ChangeSlices
import Derived.Deep.Slices
import Derived.ChangeSame
namespace Go.Proofs.YtklgpmpmolphaaaDoor
open Go.RowKit Go.Proofs
set_option maxRecDepth 100000
theorem splitK_len (c : UInt8) : ∀ (k : Nat) (l p : List UInt8), p ∈ Lib.splitK [c] 0 k l → p.length ≤ l.length
  | 0, l, p, hp => by
    simp [Lib.splitK] at hp
    rw [hp]
    exact Nat.le_refl _
  | k + 1, l, p, hp => by
    rw [Lib.splitK] at hp
    split at hp
    · simp at hp
      rw [hp]
      exact Nat.le_refl _
    · rcases List.mem_cons.1 hp with e | hp
      · rw [e, List.length_take]
        omega
      · have := splitK_len c k _ p hp
        rw [List.length_drop] at this
        omega
/-- The bytes of pairs. -/
def bytL (P : List Nat) : List UInt8 := P.flatMap fun n => [UInt8.ofNat (n / 256), UInt8.ofNat (n % 256)]
theorem bytL_len (P : List Nat) : (bytL P).length = 2 * P.length := by
  induction P with
  | nil => rfl
  | cons n P ih =>
    unfold bytL at ih ⊢
    rw [List.flatMap_cons, List.length_append, ih]
    simp
    omega
theorem bytL_snoc (P : List Nat) (n : Nat) : bytL (P ++ [n]) = bytL P ++ [UInt8.ofNat (n / 256), UInt8.ofNat (n % 256)] := by
  unfold bytL
  rw [List.flatMap_append]
  rfl
theorem bytL_app (P Q : List Nat) : bytL (P ++ Q) = bytL P ++ bytL Q := by
  unfold bytL
  rw [List.flatMap_append]
theorem bytL_zero (n : Nat) : bytL (List.replicate n 0) = List.replicate (2 * n) 0 := by
  induction n with
  | zero => rfl
  | succ n ih =>
    rw [List.replicate_succ, show (0 : Nat) :: List.replicate n 0 = [0] ++ List.replicate n 0 from rfl, bytL_app, ih, show 2 * (n + 1) = 2 + 2 * n by omega, ← List.replicate_append_replicate]
    rfl
theorem put2_ls {n : Nat} (hn : n < 65536) : lsT (putT n 2) = [UInt8.ofNat (n / 256), UInt8.ofNat (n % 256)] := by
  have h1 : putF n 2 0 = ((n / 256 : Nat) : Int) := by unfold putF; simp; omega
  have h2 : putF n 2 1 = ((n % 256 : Nat) : Int) := by unfold putF; simp
  unfold putT
  simp [lsT, mkS, bytesL, List.range_succ, h1, h2]
  exact ⟨by congr 1, by congr 1⟩
theorem pair_read {x : List UInt8} {n : Nat} (h4 : x.length ≤ 4) (h : hexB x = .ok n) : pairV x = some n := by
  rw [hexB_pair h4] at h
  cases hp : pairV x with
  | none => rw [hp] at h; cases h
  | some m =>
    rw [hp] at h
    injection h with h
    rw [h]
theorem pair_bad {x : List UInt8} (h : ∀ n, hexB x ≠ .ok n) : pairV x = none := by
  by_cases h4 : x.length ≤ 4
  · cases hp : pairV x with
    | none => rfl
    | some m => exact absurd (by rw [hexB_pair h4, hp]) (h m)
  · exact pair_long (by omega)
/-- What parsePairs tells. -/
def PairQ (R : Option (List Nat)) (e : Ending) : Prop := (∃ P T, R = some P ∧ lsT T = bytL P ∧ e = .returned (.tuple #[.string T, .bool true])) ∨ (R = none ∧ e = .returned (.tuple #[.string ByteArray.empty, .bool false]))
set_option maxHeartbeats 16000000 in
theorem parsePairs_run (s : ByteArray) (w : World) (hs : s.size ≤ 2000000) (hE : Env w) : Calls Tryd.prog 55 #[.string s] w fun e w' => PairQ (pairs9 (lsT s)) e ∧ Below w.heap.size w w' := by
  obtain ⟨R, hR⟩ : ∃ R, pairs9 (lsT s) = R := ⟨_, rfl⟩
  rw [hR]
  have HR := Hid.mk hR
  clear hR
  obtain ⟨q, hq⟩ : ∃ q, decide (s = (⟨#[]⟩ : ByteArray)) = q := ⟨_, rfl⟩
  have HQ := Hid.mk hq
  go_enter Tryd.func55, Tryd.ntmps55
  cases q
  · have hne : lsT s ≠ [] := fun e => of_decide_eq_false hq (lsT_inj e)
    clear hq
    have HRE : Hid (R = if (splitC 58 (lsT s)).length ≤ 9 then allO pairV (splitC 58 (lsT s)) else none) := Hid.mk (by rw [← HR.out]; unfold pairs9; rw [if_neg hne])
    have HE1 := Hid.mk hE
    go_wp2_with (first | (refine wl_value rfl (exec_eqSb (t := ⟨#[]⟩) rfl (by rfl) (by rfl) HQ.out) ?_) | (go_at_call 52; refine (SplitN_run s 58 9 _ (by omega) (by decide) (by decide) HE1.out).mono ?_; rintro e u2 ⟨g, cp, ps, rfl, hps, hrow, hgg, hB2⟩; refine Hid.out ?_))
    refine Hid.mk ?_
    obtain ⟨_, hl2, hl3⟩ := pieces_len hps (by decide)
    have HPZ : Hid (∀ x ∈ ps, x.size ≤ 2000000) := Hid.mk (fun x hx => by
      have h1 : lsT x ∈ ps.map lsT := List.mem_map_of_mem hx
      rw [hps] at h1
      have := splitK_len 58 _ _ _ h1
      rw [lsT_len, lsT_len] at this
      omega)
    have hN9 : ps.length ≤ 9 := by
      have h1 := (pieces_len hps (by decide)).1
      omega
    have HBAD : Hid (∀ x ∈ ps, pairV (lsT x) = none → R = none) := Hid.mk (fun x hx hn => by
      rw [HRE.out]
      by_cases h9 : (splitC 58 (lsT s)).length ≤ 9
      · rw [if_pos h9, ← hl2 h9]
        exact allO_none (List.mem_map_of_mem hx) hn
      · rw [if_neg h9])
    have HGOOD : Hid (∀ l, allO pairV (ps.map lsT) = some l → R = some l) := Hid.mk (fun l hl => by
      rw [HRE.out]
      by_cases h9 : (splitC 58 (lsT s)).length ≤ 9
      · rw [if_pos h9, ← hl2 h9]
        exact hl
      · exfalso
        obtain ⟨pre, z, hz, hm⟩ := hl3 (by omega)
        have := allO_none (f := pairV) (l := ps.map lsT) (a := z) (by rw [hz]; simp) (pair_colon hm)
        rw [this] at hl
        cases hl)
    obtain ⟨N, hN⟩ : ∃ N, ps.length = N := ⟨_, rfl⟩
    have HN := Hid.mk hN
    rw [hN] at hN9 ⊢
    clear hps hl2 hl3 HRE HR HE1 hN
    go_wp2_with fail
    go_loopg [4, 14] N (fun gm s4 s14 z => ∃ (k : Nat) (l : List Nat) (T : ByteArray), Hid (gm + k = N) ∧ k ≤ N ∧ s14 = .int .i64 (k : Int) ∧ s4 = .string T ∧ Hid (lsT T = bytL l ∧ l.length = k ∧ allO pairV ((ps.map lsT).take k) = some l) ∧ Hid (RowS z g ps ∧ Below w.heap.size w z))
    case atStart => exact ⟨0, [], ⟨#[]⟩, Hid.mk rfl, by omega, rfl, rfl, Hid.mk ⟨rfl, rfl, rfl⟩, Hid.mk ⟨hrow, hB2⟩⟩
    case round =>
      obtain ⟨k, l, T, HK, hkN, rfl, rfl, HL, HW⟩ := hrel
      obtain ⟨wI, hwI⟩ : ∃ x, x = wr := ⟨_, rfl⟩
      rw [← hwI] at HW ⊢
      clear hwI
      have HEW := Hid.mk (hE.kept HW.out.2)
      by_cases hk : k < N
      · have hki : (k : Int) < (N : Int) := by omega
        obtain ⟨x, hx⟩ : ∃ x, ps[k]? = some x := ⟨ps[k]'(by rw [HN.out]; exact hk), List.getElem?_eq_getElem _⟩
        have hxl := HPZ.out x (List.mem_of_getElem? hx)
        have HBX := Hid.mk (HBAD.out x (List.mem_of_getElem? hx))
        have HTK : Hid ((ps.map lsT).take (k + 1) = (ps.map lsT).take k ++ [lsT x]) := Hid.mk (by
          rw [List.take_add_one, List.getElem?_map, hx]
          rfl)
        have hcell : wI.cell? ((⟨g, 0, none⟩ : Addr).add k) = some (.string x) := by
          rw [Addr.add_lit, Nat.zero_add]
          exact HW.out.1 k x hx
        clear hx
        have hTs : T.size = 2 * k := by rw [← lsT_len, HL.out.1, bytL_len, HL.out.2.1]
        have HTS := Hid.mk hTs
        clear hTs
        go_wp2_with (first | (refine wl_value rfl (exec_ixSt (i := k) rfl (by rfl) (by rfl) hk) ?_) | (refine wl_value rfl (exec_ld rfl (by rfl) (load_str hcell)) ?_))
        refine (Parse16_run x _ (by omega) HEW.out).mono ?_
        rintro e u5 ⟨hq, hB5⟩
        have ar := HW.out.1.kept hB5
        have hBc := HW.out.2.trans (hB5.mono HW.out.2.size)
        obtain ⟨M, hM⟩ : ∃ M, x.size = M := ⟨_, rfl⟩
        rcases hq with ⟨n, hn, rfl⟩ | ⟨hn, u, tt, pp, rfl⟩
        · by_cases h4 : 4 < M
          · have h4i : (4 : Int) < (M : Int) := by omega
            have HNO : Hid (R = none) := Hid.mk (HBX.out (pair_long (by rw [lsT_len, hM]; exact h4)))
            go_wp2_with fail
            exact bodyPost_ret (results_two rfl (by rfl) (by rfl)) rfl ⟨.inr ⟨HNO.out, rfl⟩, hBc⟩
          · have h4i : ¬ (4 : Int) < (M : Int) := by omega
            have hpv : pairV (lsT x) = some n := pair_read (by rw [lsT_len, hM]; omega) hn
            have hn6 := pair_lt hpv
            have HPV := Hid.mk hpv
            have HC2 : Hid (T.size + (putT n 2).size ≤ 9223372036854775807) := Hid.mk (by
              have h1 : (putT n 2).size = 2 := by rw [← lsT_len, put2_ls hn6]; rfl
              rw [HTS.out, h1]
              omega)
            go_wp2_with (first | (go_at_call 13; refine (Put_run n 2 _ (by decide) (by decide)).mono ?_; rintro e u6 ⟨rfl, hB6⟩; refine Hid.out ?_))
            refine Hid.mk ?_
            have HL2 : Hid (lsT (T ++ putT n 2) = bytL (l ++ [n]) ∧ (l ++ [n]).length = k + 1 ∧ allO pairV ((ps.map lsT).take (k + 1)) = some (l ++ [n])) := Hid.mk ⟨by rw [lsT_app, HL.out.1, put2_ls hn6, bytL_snoc], by rw [List.length_append, HL.out.2.1]; rfl, by
              rw [HTK.out]
              exact allO_snoc _ _ _ _ HL.out.2.2 HPV.out⟩
            have HW2 : Hid (RowS u6 g ps ∧ Below w.heap.size w u6) := Hid.mk ⟨ar.kept hB6, hBc.trans (hB6.mono hBc.size)⟩
            clear ar hBc hB5 hB6 HW HEW HL
            go_wp2_with (refine wl_value rfl (exec_catS rfl (by rfl) (by rfl) HC2.out) ?_)
            go_roundg (N - (k + 1))
            case rel => exact ⟨k + 1, l ++ [n], T ++ putT n 2, Hid.mk (by omega), by omega, by go_num, rfl, HL2, HW2⟩
            case measure => have := HK.out; omega
        · have HNO : Hid (R = none) := Hid.mk (HBX.out (pair_bad hn))
          go_wp2_with fail
          exact bodyPost_ret (results_two rfl (by rfl) (by rfl)) rfl ⟨.inr ⟨HNO.out, rfl⟩, hBc⟩
      · have hk2 : k = N := by omega
        subst hk2
        have HF : Hid (R = some l) := Hid.mk (HGOOD.out l (by
          have := HL.out.2.2
          rw [List.take_of_length_le (by rw [List.length_map, HN.out]; exact Nat.le_refl _)] at this
          exact this))
        go_wp2_with fail
        exact bodyPost_ret (results_two rfl (by rfl) (by rfl)) rfl ⟨.inl ⟨l, T, HF.out, HL.out.1, rfl⟩, HW.out.2⟩
  · have he : s = ⟨#[]⟩ := of_decide_eq_true hq
    have HF : Hid (R = some []) := Hid.mk (by rw [← HR.out, he]; rfl)
    clear hq he
    go_wp2_with (refine wl_value rfl (exec_eqSb (t := ⟨#[]⟩) rfl (by rfl) (by rfl) HQ.out) ?_)
    exact bodyPost_ret (results_two rfl (by rfl) (by rfl)) rfl ⟨.inl ⟨[], ⟨#[]⟩, HF.out, rfl, rfl⟩, Below.refl _ _⟩
end Go.Proofs.YtklgpmpmolphaaaDoor
/-
  Own text. The sixteen bytes of eight pairs.
-/
namespace Go.Proofs.YtklgpmpmolphaaaDoor
open Go.RowKit Go.Proofs
set_option maxRecDepth 100000
def prB (l : List Nat) (j : Nat) : Int := if j % 2 = 0 then ((l.getD (j / 2) 0 / 256 : Nat) : Int) else ((l.getD (j / 2) 0 % 256 : Nat) : Int)
theorem txt_getD (s : ByteArray) (j : Nat) : txt s j = (((lsT s).getD j 0).toNat : Int) := by
  by_cases h : j < s.size
  · obtain ⟨x, hx, hy⟩ := lsT_at h
    rw [hy, List.getD_eq_getElem?_getD, ← List.head?_drop, hx]
    rfl
  · have h1 : (lsT s).length ≤ j := by rw [lsT_len]; omega
    rw [List.getD_eq_getElem?_getD, List.getElem?_eq_none h1]
    unfold txt
    rw [List.getD_eq_getElem?_getD, List.getElem?_eq_none (by simpa [lsT] using h1)]
end Go.Proofs.YtklgpmpmolphaaaDoor
/-
  Own text. The program's own parse6 and Parse.
-/
namespace Go.Proofs.YtklgpmpmolphaaaDoor
open Go.RowKit Go.Proofs
set_option maxRecDepth 100000
theorem bytL_at : ∀ (P : List Nat) (j : Nat), j < 2 * P.length → (bytL P)[j]? = some (UInt8.ofNat (if j % 2 = 0 then P.getD (j / 2) 0 / 256 else P.getD (j / 2) 0 % 256))
  | [], j, h => by simp at h
  | n :: P, 0, _ => rfl
  | n :: P, 1, _ => rfl
  | n :: P, j + 2, h => by
    have e : bytL (n :: P) = [UInt8.ofNat (n / 256), UInt8.ofNat (n % 256)] ++ bytL P := rfl
    rw [e, List.getElem?_append_right (by simp)]
    have ih := bytL_at P j (by simp at h; omega)
    rw [show j + 2 - [UInt8.ofNat (n / 256), UInt8.ofNat (n % 256)].length = j from rfl, ih, show (j + 2) % 2 = j % 2 by omega, show (j + 2) / 2 = j / 2 + 1 by omega]
    rfl
theorem fr_pr {F : ByteArray} {P : List Nat} (h : lsT F = bytL P) (h8 : P.length = 8) (hp : ∀ p ∈ P, p < 65536) {j : Nat} (hj : j < 16) : frB F j = prB P j := by
  have hs : F.size = 16 := by rw [← lsT_len, h, bytL_len, h8]
  unfold frB prB
  rw [if_pos (by omega), txt_getD, h, List.getD_eq_getElem?_getD, bytL_at P j (by omega)]
  have hq : P.getD (j / 2) 0 < 65536 := by
    rw [List.getD_eq_getElem?_getD, List.getElem?_eq_getElem (by omega)]
    exact hp _ (List.getElem_mem _)
  generalize P.getD (j / 2) 0 = m at hq
  by_cases e : j % 2 = 0
  · rw [if_pos e, if_pos e]
    have : m / 256 < 256 := by omega
    simp
    omega
  · rw [if_neg e, if_neg e]
    have : m % 256 < 256 := by omega
    simp
/-- What parse6 tells. -/
def Par6Q (R : Option (List Nat)) (e : Ending) : Prop := (∃ P, R = some P ∧ e = .returned (.tuple #[.agg (SC 17 (adV true (prB P))), .bool true])) ∨ (R = none ∧ ∃ v b, e = .returned (.tuple #[.agg (SC 17 (adV v b)), .bool false]))
set_option maxHeartbeats 32000000 in
theorem parse6_run (s : ByteArray) (w : World) (hs : s.size ≤ 2000000) (hE : Env w) : Calls Tryd.prog 44 #[.string s] w fun e w' => Par6Q (sixV (lsT s)) e ∧ Below w.heap.size w w' := by
  obtain ⟨R, hR⟩ : ∃ R, sixV (lsT s) = R := ⟨_, rfl⟩
  rw [hR]
  have HR := Hid.mk hR
  clear hR
  go_enter Tryd.func44, Tryd.ntmps44
  go_wp2_with (refine wl_alO rfl rfl zeroAddr ?_; intro g2 u1 hg2 p1 hB1; refine Hid.out ?_)
  refine Hid.mk ?_
  go_wp2_with fail
  refine (Cut_run s _ (by omega) (hE.kept hB1)).mono ?_
  rintro e u2 ⟨⟨h, t, b, rfl, hcut⟩, hB2⟩
  have hBa := hB1.trans (hB2.mono hB1.size)
  have p2 := SAt.kept p1 hB2
  clear p1 hB1 hB2
  have hsz : h.size ≤ 2000000 ∧ t.size ≤ 2000000 := by
    rcases hcut with ⟨_, _, rfl, rfl⟩ | ⟨_, _, hsl⟩
    · exact ⟨hs, Nat.zero_le _⟩
    · have := congrArg List.length hsl
      rw [lsT_len, List.length_append, List.length_cons, List.length_cons, lsT_len, lsT_len] at this
      omega
  have HSIX : Hid ((b = false ∧ R = oneV (pairs9 (lsT h)) ∧ pairs9 (lsT t) = some []) ∨ (b = true ∧ R = twoV (pairs9 (lsT h)) (pairs9 (lsT t)))) := Hid.mk (by
    rw [← HR.out]
    rcases hcut with ⟨hc, rfl, rfl, rfl⟩ | ⟨hc, rfl, _⟩
    · exact .inl ⟨rfl, six9_no hc, rfl⟩
    · exact .inr ⟨rfl, six9_cut hc⟩)
  obtain ⟨hsh, hst⟩ := hsz
  clear hcut HR
  go_wp2_with fail
  refine (parsePairs_run h _ hsh (hE.kept hBa)).mono ?_
  rintro e u3 ⟨hq1, hB3⟩
  have hBb := hBa.trans (hB3.mono hBa.size)
  have p3 := SAt.kept p2 hB3
  clear p2 hBa hB3
  rcases hq1 with ⟨A, T1, hA, hT1, rfl⟩ | ⟨hA, rfl⟩
  · go_wp2_with fail
    refine (parsePairs_run t _ hst (hE.kept hBb)).mono ?_
    rintro e u4 ⟨hq2, hB4⟩
    have hBd := hBb.trans (hB4.mono hBb.size)
    have p4 := SAt.kept p3 hB4
    clear p3 hBb hB4
    have hal := pairs9_len hA
    obtain ⟨n1, hn1⟩ : ∃ n1, T1.size = n1 := ⟨_, rfl⟩
    have hn1a : n1 = 2 * A.length := by rw [← hn1, ← lsT_len, hT1, bytL_len]
    have HT1 := Hid.mk hT1
    have HAP := Hid.mk hal.2
    have hal9 := hal.1
    clear hT1 hal
    rcases hq2 with ⟨B, T2, hB, hT2, rfl⟩ | ⟨hB, rfl⟩
    · have hbl := pairs9_len hB
      obtain ⟨n2, hn2⟩ : ∃ n2, T2.size = n2 := ⟨_, rfl⟩
      have hn2b : n2 = 2 * B.length := by rw [← hn2, ← lsT_len, hT2, bytL_len]
      have HT2 := Hid.mk hT2
      have HBP := Hid.mk hbl.2
      have hbl9 := hbl.1
      clear hT2 hbl
      rw [hA, hB] at HSIX
      rcases HSIX.out with ⟨rfl, hRv, hBn⟩ | ⟨rfl, hRv⟩
      · injection hBn with hBn
        subst hBn
        have hn20 : n2 = 0 := hn2b
        clear hn2b HSIX
        have hRv : R = if A.length = 8 then some A else none := hRv
        by_cases h8 : A.length = 8
        · have HYES : Hid (R = some A) := Hid.mk (by rw [hRv, if_pos h8])
          clear hRv
          obtain ⟨q1, hq1⟩ : ∃ q1, 16 = n1 + q1 := ⟨16 - n1, by omega⟩
          obtain ⟨L, hL⟩ : ∃ L, q1 = n2 + L := ⟨q1 - n2, by omega⟩
          have hL16 : L ≤ 16 := by omega
          have hn1l : n1 ≤ 16 := by omega
          have hn2l : n2 ≤ 16 := by omega
          have hq1l : q1 ≤ 16 := by omega
          have HLE : Hid (L = 0) := Hid.mk (by omega)
          clear hn1a hal9 hn20
          have HD2 : Hid (decide ((0 : Int) < (L : Int)) = false) := Hid.mk (decide_eq_false (by have := HLE.out; omega))
          have HQL := Hid.mk (And.intro hq1 hL)
          clear hq1 hL
          go_wp2_with (first | (refine wl_value rfl (exec_subW (i := 16) (m := n1) (q := q1) rfl (by rfl) (by rfl) HQL.out.1 (by omega)) ?_) | (refine wl_value rfl (exec_subW (i := q1) (m := n2) (q := L) rfl (by rfl) (by rfl) HQL.out.2 (by omega)) ?_) | (refine wl_value rfl (exec_gtW (m := (L : Int)) (n := 0) rfl (by rfl) (by rfl) HD2.out) ?_))
          refine (Repeat_run L _ hL16).mono ?_
          rintro e v1 ⟨⟨z, rfl, hz⟩, hB5⟩
          have hzs : z.size = L := by rw [← lsT_len, hz, List.length_replicate]
          have HZ := Hid.mk hz
          have HC1 : Hid (T1.size + z.size ≤ 9223372036854775807) := Hid.mk (by rw [hn1, hzs]; have := HQL.out; omega)
          have HC2 : Hid ((T1 ++ z).size + T2.size ≤ 9223372036854775807) := Hid.mk (by rw [ByteArray.size_append, hn1, hzs, hn2]; have := HQL.out; omega)
          obtain ⟨F, hF⟩ : ∃ F, T1 ++ z ++ T2 = F := ⟨_, rfl⟩
          have hFs : F.size = 16 := by rw [← hF, ByteArray.size_append, ByteArray.size_append, hn1, hzs, hn2]; have := HQL.out; omega
          have HFF : Hid (adV (decide (F.size = 16)) (frB F) = adV true (frB F)) := Hid.mk (by rw [decide_eq_true hFs])
          have HFB : Hid (SC 17 (adV true (frB F)) = SC 17 (adV true (prB A))) := Hid.mk (adV_ext (fun j hj => fr_pr (by rw [← hF, lsT_app, lsT_app, HT1.out, HT2.out, HZ.out]; exact (by rw [HLE.out]; simp [bytL])) h8 HAP.out hj))
          have HFR := Hid.mk (From_run F v1 (.inr hFs))
          rw [HFF.out] at HFR
          have p5 := SAt.kept p4 hB5
          have hBe := hBd.trans (hB5.mono hBd.size)
          clear hz hzs HFF hFs p4
          go_wp2_with (first | (refine wl_value rfl (exec_catS rfl (by rfl) (by rfl) HC1.out) ?_) | (refine wl_value rfl (exec_catS rfl (by rfl) (by rfl) HC2.out) ?_; simp only [hF]) | (go_at_call 32; refine HFR.out.mono ?_; rintro e v2 ⟨rfl, hB6⟩; refine Hid.out ?_))
          refine Hid.mk ?_
          have p6 := SAt.kept p5 hB6
          have hBf := hBe.trans (hB6.mono hBe.size)
          go_wp2_with (refine wl_alO rfl rfl zeroAddr ?_; intro g12 v3 hg12 q12 hB7; refine Hid.out ?_)
          refine Hid.mk ?_
          have p7 := SAt.kept p6 hB7
          have hBg := hBf.trans (hB7.mono hBf.size)
          have h12 : g2 ≠ g12 := by have := SAt.lt p6; omega
          have hg12w : w.heap.size ≤ g12 := by have := hBf.size; omega
          go_wp2_with (refine st_stO rfl rfl isAddr (adV_one _ _) q12 (by rfl) (by rfl) ?_; intro v4 q13 o8; refine Hid.out ?_)
          refine Hid.mk ?_
          have p8 := p7.only o8 h12
          have hBh := hBg.trans (o8.below hg12w)
          go_wp2_with (first | (refine wl_value rfl (look_st rfl isAddr q13 (by rfl)) ?_) | (refine st_stO rfl rfl isAddr (adV_one _ _) p8 (by rfl) (by rfl) ?_; intro v5 q14 o9; refine Hid.out ?_))
          refine Hid.mk ?_
          go_wp2_with fail
          exact bodyPost_ret (res_ct rfl isAddr q14 (by rfl) (by rfl)) rfl ⟨.inl ⟨_, HYES.out, by rw [HFB.out]; rfl⟩, hBh.trans (o9.below hg2)⟩
        · have HNO : Hid (R = none) := Hid.mk (by rw [hRv, if_neg h8])
          clear hRv
          have hnn : n1 ≤ 18 ∧ n2 ≤ 18 := by omega
          by_cases hlt : A.length < 8
          · as_aux_lemma =>
              obtain ⟨q1, hq1⟩ : ∃ q1, 16 = n1 + q1 := ⟨16 - n1, by omega⟩
              obtain ⟨L, hL⟩ : ∃ L, q1 = n2 + L := ⟨q1 - n2, by omega⟩
              have hL16 : L ≤ 16 := by omega
              have hn1l : n1 ≤ 16 := by omega
              have hn2l : n2 ≤ 16 := by omega
              have hq1l : q1 ≤ 16 := by omega
              have HD2 : Hid (decide ((0 : Int) < (L : Int)) = true) := Hid.mk (decide_eq_true (by omega))
              clear hn1a hn20 hlt h8 hal9 hbl9 hnn
              have HQL := Hid.mk (And.intro hq1 hL)
              clear hq1 hL
              go_wp2_with (first | (refine wl_value rfl (exec_subW (i := 16) (m := n1) (q := q1) rfl (by rfl) (by rfl) HQL.out.1 (by omega)) ?_) | (refine wl_value rfl (exec_subW (i := q1) (m := n2) (q := L) rfl (by rfl) (by rfl) HQL.out.2 (by omega)) ?_) | (refine wl_value rfl (exec_gtW (m := (L : Int)) (n := 0) rfl (by rfl) (by rfl) HD2.out) ?_) | (refine wl_value rfl (exec_adW0 rfl) ?_) | (refine st_stO rfl rfl isAddr (adV_one _ _) p4 (by rfl) (by rfl) ?_; intro u6 q6 o6; refine Hid.out ?_))
              refine Hid.mk ?_
              go_wp2_with fail
              exact bodyPost_ret (res_ct rfl isAddr q6 (by rfl) (by rfl)) rfl ⟨.inr ⟨HNO.out, _, _, rfl⟩, hBd.trans (o6.below hg2)⟩
          · have hi1 : (16 : Int) - (n1 : Int) - (n2 : Int) < 0 := by omega
            clear hn1a hn20 hlt h8 hal9 hbl9
            go_wp2_with (first | (refine wl_value rfl (exec_adW0 rfl) ?_) | (refine st_stO rfl rfl isAddr (adV_one _ _) p4 (by rfl) (by rfl) ?_; intro u6 q6 o6; refine Hid.out ?_))
            refine Hid.mk ?_
            go_wp2_with fail
            exact bodyPost_ret (res_ct rfl isAddr q6 (by rfl) (by rfl)) rfl ⟨.inr ⟨HNO.out, _, _, rfl⟩, hBd.trans (o6.below hg2)⟩
      · have hRv : R = if A.length + B.length ≤ 7 then some (A ++ (List.replicate (8 - A.length - B.length) 0 ++ B)) else none := hRv
        clear HSIX
        by_cases h7 : A.length + B.length ≤ 7
        · have HYES : Hid (R = some (A ++ (List.replicate (8 - A.length - B.length) 0 ++ B))) := Hid.mk (by rw [hRv, if_pos h7])
          clear hRv
          obtain ⟨q1, hq1⟩ : ∃ q1, 16 = n1 + q1 := ⟨16 - n1, by omega⟩
          obtain ⟨L, hL⟩ : ∃ L, q1 = n2 + L := ⟨q1 - n2, by omega⟩
          have hL16 : L ≤ 16 := by omega
          have hn1l : n1 ≤ 16 := by omega
          have hn2l : n2 ≤ 16 := by omega
          have hq1l : q1 ≤ 16 := by omega
          have HLE : Hid (L = 2 * (8 - A.length - B.length)) := Hid.mk (by omega)
          clear hn1a hn2b hal9 hbl9
          have HD2 : Hid (decide ((0 : Int) < (L : Int)) = true) := Hid.mk (decide_eq_true (by have := HLE.out; omega))
          have HQL := Hid.mk (And.intro hq1 hL)
          clear hq1 hL
          go_wp2_with (first | (refine wl_value rfl (exec_subW (i := 16) (m := n1) (q := q1) rfl (by rfl) (by rfl) HQL.out.1 (by omega)) ?_) | (refine wl_value rfl (exec_subW (i := q1) (m := n2) (q := L) rfl (by rfl) (by rfl) HQL.out.2 (by omega)) ?_) | (refine wl_value rfl (exec_gtW (m := (L : Int)) (n := 0) rfl (by rfl) (by rfl) HD2.out) ?_))
          refine (Repeat_run L _ hL16).mono ?_
          rintro e v1 ⟨⟨z, rfl, hz⟩, hB5⟩
          have hzs : z.size = L := by rw [← lsT_len, hz, List.length_replicate]
          have HZ := Hid.mk hz
          have HC1 : Hid (T1.size + z.size ≤ 9223372036854775807) := Hid.mk (by rw [hn1, hzs]; have := HQL.out; omega)
          have HC2 : Hid ((T1 ++ z).size + T2.size ≤ 9223372036854775807) := Hid.mk (by rw [ByteArray.size_append, hn1, hzs, hn2]; have := HQL.out; omega)
          obtain ⟨F, hF⟩ : ∃ F, T1 ++ z ++ T2 = F := ⟨_, rfl⟩
          have hFs : F.size = 16 := by rw [← hF, ByteArray.size_append, ByteArray.size_append, hn1, hzs, hn2]; have := HQL.out; omega
          have HFF : Hid (adV (decide (F.size = 16)) (frB F) = adV true (frB F)) := Hid.mk (by rw [decide_eq_true hFs])
          have HFB : Hid (SC 17 (adV true (frB F)) = SC 17 (adV true (prB (A ++ (List.replicate (8 - A.length - B.length) 0 ++ B))))) := Hid.mk (adV_ext (fun j hj => fr_pr (by rw [← hF, lsT_app, lsT_app, HT1.out, HT2.out, HZ.out]; exact (by rw [bytL_app, bytL_app, bytL_zero, HLE.out, List.append_assoc])) (by simp; omega) (fun p hp => by rcases List.mem_append.1 hp with e | e; exact HAP.out p e; rcases List.mem_append.1 e with e | e; (rw [List.eq_of_mem_replicate e]; decide); exact HBP.out p e) hj))
          have HFR := Hid.mk (From_run F v1 (.inr hFs))
          rw [HFF.out] at HFR
          have p5 := SAt.kept p4 hB5
          have hBe := hBd.trans (hB5.mono hBd.size)
          clear hz hzs HFF hFs p4
          go_wp2_with (first | (refine wl_value rfl (exec_catS rfl (by rfl) (by rfl) HC1.out) ?_) | (refine wl_value rfl (exec_catS rfl (by rfl) (by rfl) HC2.out) ?_; simp only [hF]) | (go_at_call 32; refine HFR.out.mono ?_; rintro e v2 ⟨rfl, hB6⟩; refine Hid.out ?_))
          refine Hid.mk ?_
          have p6 := SAt.kept p5 hB6
          have hBf := hBe.trans (hB6.mono hBe.size)
          go_wp2_with (refine wl_alO rfl rfl zeroAddr ?_; intro g12 v3 hg12 q12 hB7; refine Hid.out ?_)
          refine Hid.mk ?_
          have p7 := SAt.kept p6 hB7
          have hBg := hBf.trans (hB7.mono hBf.size)
          have h12 : g2 ≠ g12 := by have := SAt.lt p6; omega
          have hg12w : w.heap.size ≤ g12 := by have := hBf.size; omega
          go_wp2_with (refine st_stO rfl rfl isAddr (adV_one _ _) q12 (by rfl) (by rfl) ?_; intro v4 q13 o8; refine Hid.out ?_)
          refine Hid.mk ?_
          have p8 := p7.only o8 h12
          have hBh := hBg.trans (o8.below hg12w)
          go_wp2_with (first | (refine wl_value rfl (look_st rfl isAddr q13 (by rfl)) ?_) | (refine st_stO rfl rfl isAddr (adV_one _ _) p8 (by rfl) (by rfl) ?_; intro v5 q14 o9; refine Hid.out ?_))
          refine Hid.mk ?_
          go_wp2_with fail
          exact bodyPost_ret (res_ct rfl isAddr q14 (by rfl) (by rfl)) rfl ⟨.inl ⟨_, HYES.out, by rw [HFB.out]; rfl⟩, hBh.trans (o9.below hg2)⟩
        · have HNO : Hid (R = none) := Hid.mk (by rw [hRv, if_neg h7])
          clear hRv
          have hnn : n1 ≤ 18 ∧ n2 ≤ 18 := by omega
          by_cases hlt : A.length + B.length = 8
          · as_aux_lemma =>
              obtain ⟨q1, hq1⟩ : ∃ q1, 16 = n1 + q1 := ⟨16 - n1, by omega⟩
              obtain ⟨L, hL⟩ : ∃ L, q1 = n2 + L := ⟨q1 - n2, by omega⟩
              have hL16 : L ≤ 16 := by omega
              have hn1l : n1 ≤ 16 := by omega
              have hn2l : n2 ≤ 16 := by omega
              have hq1l : q1 ≤ 16 := by omega
              have HD2 : Hid (decide ((0 : Int) < (L : Int)) = false) := Hid.mk (decide_eq_false (by omega))
              clear hn1a hn2b hlt h7 hal9 hbl9 hnn
              have HQL := Hid.mk (And.intro hq1 hL)
              clear hq1 hL
              go_wp2_with (first | (refine wl_value rfl (exec_subW (i := 16) (m := n1) (q := q1) rfl (by rfl) (by rfl) HQL.out.1 (by omega)) ?_) | (refine wl_value rfl (exec_subW (i := q1) (m := n2) (q := L) rfl (by rfl) (by rfl) HQL.out.2 (by omega)) ?_) | (refine wl_value rfl (exec_gtW (m := (L : Int)) (n := 0) rfl (by rfl) (by rfl) HD2.out) ?_) | (refine wl_value rfl (exec_adW0 rfl) ?_) | (refine st_stO rfl rfl isAddr (adV_one _ _) p4 (by rfl) (by rfl) ?_; intro u6 q6 o6; refine Hid.out ?_))
              refine Hid.mk ?_
              go_wp2_with fail
              exact bodyPost_ret (res_ct rfl isAddr q6 (by rfl) (by rfl)) rfl ⟨.inr ⟨HNO.out, _, _, rfl⟩, hBd.trans (o6.below hg2)⟩
          · have hi1 : (16 : Int) - (n1 : Int) - (n2 : Int) < 0 := by omega
            clear hn1a hn2b hlt h7 hal9 hbl9
            go_wp2_with (first | (refine wl_value rfl (exec_adW0 rfl) ?_) | (refine st_stO rfl rfl isAddr (adV_one _ _) p4 (by rfl) (by rfl) ?_; intro u6 q6 o6; refine Hid.out ?_))
            refine Hid.mk ?_
            go_wp2_with fail
            exact bodyPost_ret (res_ct rfl isAddr q6 (by rfl) (by rfl)) rfl ⟨.inr ⟨HNO.out, _, _, rfl⟩, hBd.trans (o6.below hg2)⟩
    · have HNO : Hid (R = none) := Hid.mk (by
        rcases HSIX.out with ⟨_, _, h0⟩ | ⟨_, h0⟩
        · rw [hB] at h0; cases h0
        · rw [h0, hA, hB]; rfl)
      clear HSIX
      go_wp2_with (first | (refine wl_value rfl (exec_adW0 rfl) ?_) | (refine st_stO rfl rfl isAddr (adV_one _ _) p4 (by rfl) (by rfl) ?_; intro u6 q6 o6; refine Hid.out ?_))
      refine Hid.mk ?_
      go_wp2_with fail
      exact bodyPost_ret (res_ct rfl isAddr q6 (by rfl) (by rfl)) rfl ⟨.inr ⟨HNO.out, _, _, rfl⟩, hBd.trans (o6.below hg2)⟩
  · go_wp2_with fail
    refine (parsePairs_run t _ hst (hE.kept hBb)).mono ?_
    rintro e u4 ⟨hq2, hB4⟩
    have hBd := hBb.trans (hB4.mono hBb.size)
    have p4 := SAt.kept p3 hB4
    clear p3 hBb hB4
    have HNO : Hid (R = none) := Hid.mk (by
      rcases HSIX.out with ⟨_, h0, _⟩ | ⟨_, h0⟩
      · rw [h0, hA]; rfl
      · rw [h0, hA]; cases pairs9 (lsT t) <;> rfl)
    clear HSIX
    rcases hq2 with ⟨B, T2, hB, hT2, rfl⟩ | ⟨hB, rfl⟩
    · have hbl := pairs9_len hB
      obtain ⟨n2, hn2⟩ : ∃ n2, T2.size = n2 := ⟨_, rfl⟩
      have hn2b : n2 = 2 * B.length := by rw [← hn2, ← lsT_len, hT2, bytL_len]
      have hbl9 := hbl.1
      clear hT2 hbl hB hA
      go_wp2_with (first | (refine wl_value rfl (exec_adW0 rfl) ?_) | (refine st_stO rfl rfl isAddr (adV_one _ _) p4 (by rfl) (by rfl) ?_; intro u6 q6 o6; refine Hid.out ?_))
      refine Hid.mk ?_
      go_wp2_with fail
      exact bodyPost_ret (res_ct rfl isAddr q6 (by rfl) (by rfl)) rfl ⟨.inr ⟨HNO.out, _, _, rfl⟩, hBd.trans (o6.below hg2)⟩
    · clear hA hB
      go_wp2_with (first | (refine wl_value rfl (exec_adW0 rfl) ?_) | (refine st_stO rfl rfl isAddr (adV_one _ _) p4 (by rfl) (by rfl) ?_; intro u6 q6 o6; refine Hid.out ?_))
      refine Hid.mk ?_
      go_wp2_with fail
      exact bodyPost_ret (res_ct rfl isAddr q6 (by rfl) (by rfl)) rfl ⟨.inr ⟨HNO.out, _, _, rfl⟩, hBd.trans (o6.below hg2)⟩
/-- What Parse tells. -/
def ParseQ (R : Option (Bool × List Nat)) (e : Ending) : Prop := (∃ l, R = some (false, l) ∧ e = .returned (.tuple #[.agg (SC 17 (adV false (lsB l))), .int .i64 0])) ∨ (∃ l, R = some (true, l) ∧ e = .returned (.tuple #[.agg (SC 17 (adV true (prB l))), .int .i64 0])) ∨ (R = none ∧ e = .returned (.tuple #[.agg (SC 17 (adV false (fun _ => 0))), .int .i64 76]))
end Go.Proofs.YtklgpmpmolphaaaDoor
/-
  Own text. The program's own Parse.
-/
namespace Go.Proofs.YtklgpmpmolphaaaDoor
open Go.RowKit Go.Proofs
set_option maxRecDepth 100000
set_option maxHeartbeats 16000000 in
theorem Parse_run (s : ByteArray) (w : World) (hs : s.size ≤ 2000000) (hE : Env w) : Calls Tryd.prog 30 #[.string s] w fun e w' => ParseQ (parV (lsT s)) e ∧ Below w.heap.size w w' := by
  have HP4 : Hid (∀ l, fourV (lsT s) = some l → parV (lsT s) = some (false, l)) := Hid.mk (fun l e => by unfold parV; rw [e])
  have HP6 : Hid (∀ l, fourV (lsT s) = none → sixV (lsT s) = some l → parV (lsT s) = some (true, l)) := Hid.mk (fun l e e2 => by unfold parV; rw [e, e2])
  have HPN : Hid (fourV (lsT s) = none → sixV (lsT s) = none → parV (lsT s) = none) := Hid.mk (fun e e2 => by unfold parV; rw [e, e2])
  generalize parV (lsT s) = R at *
  go_enter Tryd.func30, Tryd.ntmps30
  go_wp2_with (refine wl_alO rfl rfl zeroAddr ?_; intro g2 u1 hg2 p1 hB1; refine Hid.out ?_)
  refine Hid.mk ?_
  go_wp2_with fail
  refine (parse4_run s _ hs (hE.kept hB1)).mono ?_
  rintro e u2 ⟨hq, hB2⟩
  have hBa := hB1.trans (hB2.mono hB1.size)
  have p2 := SAt.kept p1 hB2
  clear p1 hB1 hB2
  rcases hq with ⟨l, hl, rfl⟩ | ⟨hl, b, rfl⟩
  · have HY := Hid.mk (HP4.out l hl)
    clear HP4 HP6 HPN
    go_wp2_with (refine wl_alO rfl rfl zeroAddr ?_; intro g4 u3 hg4 q4 hB3; refine Hid.out ?_)
    refine Hid.mk ?_
    have p3 := SAt.kept p2 hB3
    have hBb := hBa.trans (hB3.mono hBa.size)
    have h24 : g2 ≠ g4 := by have := SAt.lt p2; omega
    have hg4w : w.heap.size ≤ g4 := by have := hBa.size; omega
    go_wp2_with (refine st_stO rfl rfl isAddr (adV_one _ _) q4 (by rfl) (by rfl) ?_; intro u4 q5 o4; refine Hid.out ?_)
    refine Hid.mk ?_
    have p4 := p3.only o4 h24
    have hBc := hBb.trans (o4.below hg4w)
    go_wp2_with (first | (refine wl_value rfl (look_st rfl isAddr q5 (by rfl)) ?_) | (refine st_stO rfl rfl isAddr (adV_one _ _) p4 (by rfl) (by rfl) ?_; intro u6 q6 o6; refine Hid.out ?_))
    refine Hid.mk ?_
    go_wp2_with fail
    exact bodyPost_ret (res_ct rfl isAddr q6 (by rfl) (by rfl)) rfl ⟨.inl ⟨l, HY.out, rfl⟩, hBc.trans (o6.below hg2)⟩
  · go_wp2_with (refine wl_alO rfl rfl zeroAddr ?_; intro g4 u3 hg4 q4 hB3; refine Hid.out ?_)
    refine Hid.mk ?_
    have p3 := SAt.kept p2 hB3
    have hBb := hBa.trans (hB3.mono hBa.size)
    have h24 : g2 ≠ g4 := by have := SAt.lt p2; omega
    have hg4w : w.heap.size ≤ g4 := by have := hBa.size; omega
    go_wp2_with (refine st_stO rfl rfl isAddr (adV_one _ _) q4 (by rfl) (by rfl) ?_; intro u4 q5 o4; refine Hid.out ?_)
    refine Hid.mk ?_
    have p4 := p3.only o4 h24
    have hBc := hBb.trans (o4.below hg4w)
    clear p2 p3 q4 q5 o4 hBa hBb hB3
    go_wp2_with fail
    refine (parse6_run s _ hs (hE.kept hBc)).mono ?_
    rintro e v1 ⟨hq, hB5⟩
    have hBd := hBc.trans (hB5.mono hBc.size)
    have p5 := SAt.kept p4 hB5
    clear p4 hBc hB5
    rcases hq with ⟨P, hP, rfl⟩ | ⟨hP, v, b', rfl⟩
    · have HY := Hid.mk (HP6.out P hl hP)
      clear HP4 HP6 HPN
      go_wp2_with (refine wl_alO rfl rfl zeroAddr ?_; intro g6 v3 hg6 q7 hB7; refine Hid.out ?_)
      refine Hid.mk ?_
      have p6 := SAt.kept p5 hB7
      have hBe := hBd.trans (hB7.mono hBd.size)
      have h26 : g2 ≠ g6 := by have := SAt.lt p5; omega
      have hg6w : w.heap.size ≤ g6 := by have := hBd.size; omega
      go_wp2_with (refine st_stO rfl rfl isAddr (adV_one _ _) q7 (by rfl) (by rfl) ?_; intro v4 q8 o8; refine Hid.out ?_)
      refine Hid.mk ?_
      have p8 := p6.only o8 h26
      have hBf := hBe.trans (o8.below hg6w)
      go_wp2_with (first | (refine wl_value rfl (look_st rfl isAddr q8 (by rfl)) ?_) | (refine st_stO rfl rfl isAddr (adV_one _ _) p8 (by rfl) (by rfl) ?_; intro u6 q6 o6; refine Hid.out ?_))
      refine Hid.mk ?_
      go_wp2_with fail
      exact bodyPost_ret (res_ct rfl isAddr q6 (by rfl) (by rfl)) rfl ⟨.inr (.inl ⟨P, HY.out, rfl⟩), hBf.trans (o6.below hg2)⟩
    · have HY := Hid.mk (HPN.out hl hP)
      clear HP4 HP6 HPN
      go_wp2_with (refine wl_alO rfl rfl zeroAddr ?_; intro g6 v3 hg6 q7 hB7; refine Hid.out ?_)
      refine Hid.mk ?_
      have p6 := SAt.kept p5 hB7
      have hBe := hBd.trans (hB7.mono hBd.size)
      have h26 : g2 ≠ g6 := by have := SAt.lt p5; omega
      have hg6w : w.heap.size ≤ g6 := by have := hBd.size; omega
      go_wp2_with (refine st_stO rfl rfl isAddr (adV_one _ _) q7 (by rfl) (by rfl) ?_; intro v4 q8 o8; refine Hid.out ?_)
      refine Hid.mk ?_
      have p8 := p6.only o8 h26
      have hBf := hBe.trans (o8.below hg6w)
      go_wp2_with (first | (refine wl_value rfl (exec_adW0 rfl) ?_) | (refine st_stO rfl rfl isAddr (adV_one _ _) p8 (by rfl) (by rfl) ?_; intro u6 q6 o6; refine Hid.out ?_))
      refine Hid.mk ?_
      go_wp2_with fail
      exact bodyPost_ret (res_ct rfl isAddr q6 (by rfl) (by rfl)) rfl ⟨.inr (.inr ⟨HY.out, rfl⟩), hBf.trans (o6.below hg2)⟩
end Go.Proofs.YtklgpmpmolphaaaDoor
/-
  Own text. The law's own awake: it answers true.
-/
namespace Go.Proofs.YtklgpmpmolphaaaDoor
open Go.RowKit Go.Proofs
set_option maxRecDepth 100000
def oneS : ByteArray := ⟨#[58, 58, 49]⟩
def sumS : ByteArray := ⟨#[0, 1, 242, 3, 244, 245, 246, 247]⟩
def getS : ByteArray := ⟨#[1, 2, 3]⟩
def dotS : ByteArray := ⟨#[49, 57, 50, 46, 48, 46, 50, 46, 49]⟩
theorem aw_text : textV false (v4B 192 0 2 1) = dotS := by decide +kernel
theorem aw_valid : validF false (v4B 192 0 2 1) = true := by decide +kernel
theorem aw_byts : Byts 16 (v4B 192 0 2 1) := fun j hj => by
  unfold v4B
  repeat' split
  all_goals omega
theorem aw_parse : parV (lsT oneS) = some (true, [0, 0, 0, 0, 0, 0, 0, 1]) := by decide +kernel
theorem aw_get : getN (txt getS) 1 2 = 515 := by decide +kernel
theorem aw_sum : sumT sumS = 8717 := by decide +kernel
theorem aw_put : putT 258 2 = (⟨#[1, 2]⟩ : ByteArray) := by decide +kernel
theorem aw_par_eq {e : Ending} (h : ParseQ (parV (lsT oneS)) e) : e = .returned (.tuple #[.agg (SC 17 (adV true (prB [0, 0, 0, 0, 0, 0, 0, 1]))), .int .i64 0]) := by
  rw [aw_parse] at h
  rcases h with ⟨l, hl, _⟩ | ⟨l, hl, he⟩ | ⟨hl, _⟩
  · injection hl with hl
    injection hl with h1 h2
    cases h1
  · injection hl with hl
    injection hl with h1 h2
    rw [he, h2]
  · cases hl
theorem joinB_one (s : ByteArray) : joinB (one1 s) 1 = s := by
  show ByteArray.empty ++ s = s
  simp
set_option maxHeartbeats 16000000 in
theorem awake_run (w : World) (hE : Env w) : Calls Tryd.prog 9 #[] w fun e w' => e = .returned (.bool true) ∧ Below w.heap.size w w' := by
  have HV4 : Hid (∀ ww, Calls Tryd.prog 28 #[.int .u8 192, .int .u8 0, .int .u8 2, .int .u8 1] ww fun e w' => e = .returned (.agg (SC 17 (adV false (v4B 192 0 2 1)))) ∧ Below ww.heap.size ww w') := Hid.mk (fun ww => V4_run 192 0 2 1 ww)
  have HTX : Hid (∀ ww, Env ww → Calls Tryd.prog 18 #[.agg (SC 17 (adV false (v4B 192 0 2 1)))] ww fun e w' => e = .returned (.tuple #[.string dotS, .int .i64 0]) ∧ Below ww.heap.size ww w') := Hid.mk (fun ww h => by
    have := Text_run false (v4B 192 0 2 1) ww aw_byts h aw_valid
    rw [aw_text] at this
    exact this)
  have HVA : Hid (∀ ww, Calls Tryd.prog 20 #[.agg (SC 17 (adV false (v4B 192 0 2 1)))] ww fun e w' => e = .returned (.bool true) ∧ Below ww.heap.size ww w') := Hid.mk (fun ww => by
    have := Valid_run false (v4B 192 0 2 1) ww
    rw [aw_valid] at this
    exact this)
  generalize v4B 192 0 2 1 = A at *
  have HPA : Hid (∀ ww, Env ww → Calls Tryd.prog 30 #[.string oneS] ww fun e w' => e = .returned (.tuple #[.agg (SC 17 (adV true (prB [0, 0, 0, 0, 0, 0, 0, 1]))), .int .i64 0]) ∧ Below ww.heap.size ww w') := Hid.mk (fun ww h => (Parse_run oneS ww (by decide) h).mono (fun e w' hh => ⟨aw_par_eq hh.1, hh.2⟩))
  have hb15 : prB [0, 0, 0, 0, 0, 0, 0, 1] 15 = 1 := by decide
  generalize prB [0, 0, 0, 0, 0, 0, 0, 1] = D at *
  have HGE : Hid (∀ ww, Calls Tryd.prog 15 #[.string getS, .int .i64 1, .int .i64 2] ww fun e w' => e = .returned (.tuple #[.int .u64 515, .bool true]) ∧ w' = ww) := Hid.mk (fun ww => by
    have := Get_run getS 1 2 ww (by decide) (by decide) (by decide) (by decide)
    rw [aw_get] at this
    exact this)
  have HSU : Hid (∀ ww g, Strs ww (.slice (some ⟨g, 0, none⟩) 1 1) 1 (one1 sumS) → Calls Tryd.prog 11 #[.slice (some ⟨g, 0, none⟩) 1 1] ww fun e w' => e = .returned (.int .i64 8717) ∧ w' = ww) := Hid.mk (fun ww g hc => by
    have := Sum_run (.slice (some ⟨g, 0, none⟩) 1 1) 1 (one1 sumS) ww hc (by decide) (by rw [joinB_one]; decide)
    rw [joinB_one, aw_sum] at this
    exact this)
  have HPU : Hid (∀ ww, Calls Tryd.prog 13 #[.int .u64 258, .int .i64 2] ww fun e w' => e = .returned (.string ⟨#[1, 2]⟩) ∧ Below ww.heap.size ww w') := Hid.mk (fun ww => by
    have := Put_run 258 2 ww (by decide) (by decide)
    rw [aw_put] at this
    exact this)
  go_enter Tryd.func9, Tryd.ntmps9
  go_wp2_with (first | (go_at_call 28; refine (HV4.out _).mono ?_; rintro e u1 ⟨rfl, hB1⟩; refine Hid.out ?_))
  refine Hid.mk ?_
  go_wp2_with (refine wl_alO rfl rfl zeroAddr ?_; intro g1 u2 hg1 q1 hB2; refine Hid.out ?_)
  refine Hid.mk ?_
  have hBa := hB1.trans (hB2.mono hB1.size)
  have hg1w : w.heap.size ≤ g1 := by have := hB1.size; omega
  go_wp2_with (refine st_stO rfl rfl isAddr (adV_one _ _) q1 (by rfl) (by rfl) ?_; intro u3 q2 o2; refine Hid.out ?_)
  refine Hid.mk ?_
  have hBb := hBa.trans (o2.below hg1w)
  have HEb := Hid.mk (hE.kept hBb)
  go_wp2_with (first | (refine wl_value rfl (look_st rfl isAddr q2 (by rfl)) ?_) | (go_at_call 18; refine (HTX.out _ HEb.out).mono ?_; rintro e u4 ⟨rfl, hB3⟩; refine Hid.out ?_))
  refine Hid.mk ?_
  have q3 := SAt.kept q2 hB3
  have hBc := hBb.trans (hB3.mono hBb.size)
  have HEc := Hid.mk (hE.kept hBc)
  go_wp2_with (first | (go_at_call 30; refine (HPA.out _ HEc.out).mono ?_; rintro e u5 ⟨rfl, hB4⟩; refine Hid.out ?_))
  refine Hid.mk ?_
  have q4 := SAt.kept q3 hB4
  have hBd := hBc.trans (hB4.mono hBc.size)
  go_wp2_with (refine wl_alO rfl rfl zeroAddr ?_; intro g4 u6 hg4 r1 hB5; refine Hid.out ?_)
  refine Hid.mk ?_
  have q5 := SAt.kept q4 hB5
  have hBe := hBd.trans (hB5.mono hBd.size)
  have h14 : g1 ≠ g4 := by have := SAt.lt q4; omega
  have hg4w : w.heap.size ≤ g4 := by have := hBd.size; omega
  go_wp2_with (refine st_stO rfl rfl isAddr (adV_one _ _) r1 (by rfl) (by rfl) ?_; intro u7 r2 o3; refine Hid.out ?_)
  refine Hid.mk ?_
  have q6 := q5.only o3 h14
  have hBf := hBe.trans (o3.below hg4w)
  clear q1 q2 q3 q4 q5 r1 o2 o3 hB1 hB2 hB3 hB4 hB5 hBa hBb hBc hBd hBe HEb HEc
  go_wp2_with (first | (go_at_call 15; refine (HGE.out _).mono ?_; rintro e u8 ⟨rfl, rfl⟩) | (refine wl_bsS1 rfl rfl (by rfl) ?_; intro gS u9 hgS cS hB9; refine Hid.out ?_))
  refine Hid.mk ?_
  have q7 := SAt.kept q6 hB9
  have r7 := SAt.kept r2 hB9
  have c0 := ad_v r7
  have c15 := ad_b r7 15 (by decide)
  rw [hb15] at c15
  have hBg := hBf.trans (hB9.mono hBf.size)
  have HS2 := Hid.mk (HSU.out u9 gS cS)
  clear HSU q6 r2 hB9
  go_wp2_with (first | (go_at_call 11; refine HS2.out.mono ?_; rintro e v1 ⟨rfl, rfl⟩) | (refine wl_value rfl (exec_eqS (s := dotS) rfl (by rfl) (by rfl)) ?_) | (refine wl_value rfl (exec_fadW0 rfl (by rfl)) ?_) | (refine wl_value rfl (exec_ld rfl (by rfl) (ldWb c0)) ?_) | (refine wl_value rfl (exec_fadW1 rfl (by rfl)) ?_) | (refine wl_value rfl (exec_ixW16 (k := 15) rfl (by rfl) (by rfl) (by decide)) ?_) | (refine wl_value rfl (exec_ld rfl (by rfl) (ldW8 c15)) ?_) | (refine wl_value rfl (look_st rfl isAddr q7 (by rfl)) ?_) | (go_at_call 20; refine (HVA.out _).mono ?_; rintro e v2 ⟨rfl, hBh⟩; refine Hid.out ?_))
  refine Hid.mk ?_
  have hBi := hBg.trans (hBh.mono hBg.size)
  go_wp2_with (first | (go_at_call 13; refine (HPU.out _).mono ?_; rintro e v3 ⟨rfl, hBj⟩; refine Hid.out ?_))
  refine Hid.mk ?_
  go_wp2_with (refine wl_value rfl (exec_eqS (s := ⟨#[1, 2]⟩) rfl (by rfl) (by rfl)) ?_)
  go_ret
  exact ⟨rfl, hBi.trans (hBj.mono hBi.size)⟩
end Go.Proofs.YtklgpmpmolphaaaDoor
/-
  Own text. What the tied condition on the library's variables gives; arguments.
-/
namespace Go.Proofs.YtklgpmpmolphaaaDoor
open Go.ChangeShapes Go.WideShapes Go.ChangeAt Go.WideMaps Go.WideElems Go.RowKit Go.Proofs
set_option maxRecDepth 100000
theorem own : ownKnob Tryd.prog.godebug = none := by kernel_rfl
def laidP : List (String × DataW Unit) := Rows.wireSumsRow.laid
noncomputable def pinW (os : Os) : World := { World.doorLaid Tryd.prog 400 os with heap := (World.doorLaid Tryd.prog 400 os).heap.setIfInBounds 6 (.cells (Pinned.utf8FirstZ.map fun z : Nat => Value.int .u8 (z : Int)).toArray 136 (0, 0)) }
/-- A world in which the variables stand as they are laid, the pinned table among them. -/
theorem door_met (os : Os) (args : Array Value) : laidMet Tryd.prog laidP ((pinW os).forCall (fun _ _ => 0) ⟨#[], args, []⟩).memory :=
  laidMet_of_run' 8 (by kernel_rfl) (by kernel_rfl)
def litsOf : DataW Unit → List Int
  | .agg l => l.map fun x => match x with
    | .lit (.int _ z) => z
    | _ => 0
  | _ => []
def debT : List Int := litsOf Rows.laid_math_bits_deBruijn64tab
theorem deb_data : (Rows.laid_math_bits_deBruijn64tab : DataW Unit) = Lib.tabData .u8 debT := by kernel_rfl
theorem pow_data : (Rows.laid_internal_strconv_uint64pow10 : DataW Unit) = Lib.tabData .u64 Lib.pow10Tab := by kernel_rfl
theorem gDeb : Tryd.prog.globalNamed "math/bits.deBruijn64tab" = some 5 := by kernel_rfl
theorem gPow : Tryd.prog.globalNamed "internal/strconv.uint64pow10" = some 0 := by kernel_rfl
theorem gRan : Tryd.prog.globalNamed "strconv.ErrRange" = some 2 := by kernel_rfl
theorem gSyn : Tryd.prog.globalNamed "strconv.ErrSyntax" = some 1 := by kernel_rfl
theorem tDeb : (Tryd.prog.globals[5]?).map (·.type) = some 131 := by kernel_rfl
theorem tPow : (Tryd.prog.globals[0]?).map (·.type) = some 102 := by kernel_rfl
theorem tRan : (Tryd.prog.globals[2]?).map (·.type) = some 72 := by kernel_rfl
theorem tSyn : (Tryd.prog.globals[1]?).map (·.type) = some 72 := by kernel_rfl
theorem cellsEr : Tryd.prog.cellsOf 134 = 1 := by kernel_rfl
theorem cellsSt : Tryd.prog.cellsOf 9 = 1 := by kernel_rfl
theorem starEr : "*" ++ "errors.errorString" = "*errors.errorString" := by decide
theorem rowEr (u : TypeId) (h : Tryd.prog.typeName? 3 u = some "*errors.errorString") : u = 132 :=
  typeName_ptr_named (nm := "errors.errorString") (by rw [starEr]; kernel_rfl) (by kernel_rfl) (by decide) u (by rw [starEr]; exact h)
theorem deb15 : debT.getD 15 0 = 4 := by kernel_rfl
theorem debL : debT.length = 64 := by kernel_rfl
theorem env_of_laid {W : World} (h : laidMetH Tryd.prog laidP W) (hs : W.ShapedOpen Tryd.prog) : Env W := by
  rw [MakeChecks.laidMetH_plain _ _ _ (by kernel_rfl)] at h
  have h1 := laidMet.tail h
  have h2 := laidMet.tail h1
  have h3 := laidMet.tail h2
  have h4 := laidMet.tail h3
  have h5 := laidMet.tail h4
  have hd : laidMet Tryd.prog (("math/bits.deBruijn64tab", Lib.tabData .u8 debT) :: (laidP.drop 2)) W := by
    rw [← deb_data]; exact h1
  have hp : laidMet Tryd.prog (("internal/strconv.uint64pow10", Lib.tabData .u64 Lib.pow10Tab) :: (laidP.drop 3)) W := by
    rw [← pow_data]; exact h2
  have td := Lib.tabIs_of_head gDeb tDeb Tryd.underlying131 Tryd.underlying5 (by kernel_rfl) (by kernel_rfl) hd
  have tp := Lib.tabIs_of_head gPow tPow Tryd.underlying102 Tryd.underlying29 (by kernel_rfl) (by kernel_rfl) hp
  have c15 := Lib.TabIs.cell td gDeb 15 (by rw [debL]; decide)
  rw [deb15] at c15
  refine ⟨tp, ?_, ?_, ?_, c15⟩
  · exact cell_of_shapedOpen_int (zero := #[.int .i64 0]) (t := 3) hs (of_decide_eq_true (by kernel_rfl)) (by kernel_rfl) rfl (by kernel_rfl) (by kernel_rfl) Tryd.underlying3
  · obtain ⟨a, st, hv, _⟩ := laid_sentinel h5 gSyn tSyn Tryd.underlying72 rowEr Tryd.underlying132 Tryd.underlying134 rfl rfl Tryd.underlying9 cellsEr cellsSt
    exact ⟨_, _, by have h0 := World.var?_cell gSyn hv 0; simpa using h0⟩
  · obtain ⟨a, st, hv, _⟩ := laid_sentinel h4 gRan tRan Tryd.underlying72 rowEr Tryd.underlying132 Tryd.underlying134 rfl rfl Tryd.underlying9 cellsEr cellsSt
    exact ⟨_, _, by have h0 := World.var?_cell gRan hv 0; simpa using h0⟩
end Go.Proofs.YtklgpmpmolphaaaDoor
/-
  Own text. Addresses and numbers as arguments.
-/
namespace Go.Proofs.YtklgpmpmolphaaaDoor
open Go.ChangeShapes Go.WideShapes Go.ChangeAt Go.WideMaps Go.WideElems Go.RowKit Go.Proofs
set_option maxRecDepth 100000
theorem laid12 : laidOutB Tryd.prog = true := by kernel_rfl
theorem cells8 : Tryd.prog.cellsOf 5 = 1 := by kernel_rfl
theorem tk1 {cs : List Value} {o : Nat} {x : Value} (h : (cs.drop o).take 1 = [x]) : cs[o]? = some x := by
  have h1 : ((cs.drop o).take 1)[0]? = some x := by rw [h]; rfl
  rw [List.getElem?_take, if_pos (by omega), List.getElem?_drop] at h1
  simpa using h1
theorem tkN {cs : List Value} {o n i : Nat} (hi : i < n) : ((cs.drop o).take n)[i]? = cs[o + i]? := by
  rw [List.getElem?_take, if_pos hi, List.getElem?_drop]
theorem sc_list {cs : List Value} {n : Nat} {V : Nat → Value} (hl : cs.length = n) (h : ∀ i, i < n → cs[i]? = some (V i)) : cs = (SC n V).toList := by
  apply List.ext_getElem?
  intro i
  by_cases hi : i < n
  · rw [h i hi, Array.getElem?_toList, SC_get n V i hi]
  · rw [List.getElem?_eq_none (by omega), List.getElem?_eq_none (by rw [Array.length_toList, SC_size]; omega)]
section
variable {H : Type} {enc : TypeId × Value → H} {w : World} {base : Nat} {sp : Nat → Bool} {held : Bool} {fuel : Nat} {cs : List Value} {x : DataW H × List MemPlace}
theorem trod_16 (h : DataW.trod enc Tryd.prog w base sp held fuel 38 cs = some x) : ∃ b, Byts 16 b ∧ (∀ i, i < 16 → cs[i]? = some (.int .u8 (b i))) ∧ x.2 = [] := by
  obtain ⟨xs, m, _, hx, _, hl, hel⟩ := DataW.trod_array Tryd.underlying38 h
  have key : ∀ i, i < 16 → ∃ k : Int, cs[i]? = some (.int .u8 k) ∧ (0 ≤ k ∧ k < 256) ∧ ∃ dd, xs[i]? = some (dd, []) := fun i hi => by
    have hi' := hel i hi
    rw [cells8, Nat.mul_one] at hi'
    have hxs : i < xs.length := by omega
    rw [List.getElem?_eq_getElem hxs] at hi'
    obtain ⟨k, e1, e2, wk⟩ := DataW.trod_int Tryd.underlying5 hi'
    have := bounds_u8 wk
    exact ⟨k, tk1 e1, by omega, ⟨_, by rw [List.getElem?_eq_getElem hxs, e2]⟩⟩
  refine ⟨fun i => match cs[i]? with | some (.int .u8 k) => k | _ => 0, fun i hi => ?_, fun i hi => ?_, ?_⟩
  · obtain ⟨k, e, hk, _⟩ := key i hi
    simp only [e]
    exact hk
  · obtain ⟨k, e, hk, _⟩ := key i hi
    simp only [e]
  · rw [hx]
    show xs.flatMap (·.2) = []
    apply List.flatMap_eq_nil_iff.2
    intro y hy
    obtain ⟨i, hi, rfl⟩ := List.getElem_of_mem hy
    obtain ⟨_, _, _, dd, e⟩ := key i (by omega)
    rw [List.getElem?_eq_getElem hi] at e
    rw [Option.some.inj e]
theorem adF : ∃ f0 f1 : Field, Tryd.prog.underlying 40 = some (.struct #[f0, f1]) ∧ f0.type = 4 ∧ f1.type = 38 ∧ f0.offset = 0 ∧ f1.offset = 1 := ⟨_, _, Tryd.underlying40, rfl, rfl, rfl, rfl⟩
theorem cAd : Tryd.prog.cellsOf 40 = 17 := by kernel_rfl
theorem cBo : Tryd.prog.cellsOf 4 = 1 := by kernel_rfl
theorem cIn : Tryd.prog.cellsOf 3 = 1 := by kernel_rfl
theorem c16 : Tryd.prog.cellsOf 38 = 16 := by kernel_rfl
theorem trod_ad (h : DataW.trod enc Tryd.prog w base sp held fuel 40 cs = some x) : ∃ v b, Byts 16 b ∧ cs.length = 17 ∧ (∀ i, i < 17 → cs[i]? = some (adV v b i)) ∧ x.2 = [] := by
  obtain ⟨f0, f1, hu, e0, e1, o0, o1⟩ := adF
  obtain ⟨y0, y1, n, hx, hl, h0, h1⟩ := trod_struct2 hu h
  rw [e0, o0, cBo] at h0
  rw [e1, o1, c16] at h1
  obtain ⟨v, hv, hv2⟩ := DataW.trod_bool Tryd.underlying4 h0
  obtain ⟨b, hb, hbs, hb2⟩ := trod_16 h1
  rw [cAd] at hl
  refine ⟨v, b, hb, hl, fun i hi => ?_, by rw [hx, hv2, hb2]; rfl⟩
  by_cases e : i < 1
  · obtain rfl : i = 0 := by omega
    exact tk1 hv
  · have := hbs (i - 1) (by omega)
    rw [tkN (by omega), show 1 + (i - 1) = i by omega] at this
    rw [this]
    unfold adV
    rw [if_neg e]
end
section
variable {H : Type} {enc : TypeId × Value → H} {W : World} {base : Nat} {sp : Nat → Bool} {v : Value} {d : DataW H} {p : List MemPlace}
/-- An argument that is an address. -/
theorem open_ad (hv : Value.okWide Tryd.prog W .any base 40 v) (h : DataW.Trod enc Tryd.prog W 0 sp true 40 v d p) : ∃ u b, Byts 16 b ∧ v = .agg (SC 17 (adV u b)) ∧ p = [] := by
  obtain ⟨cs, rfl, hsz, _⟩ : ∃ cs, v = .agg cs ∧ cs.size = Tryd.prog.cellsOf 40 ∧ Row.okWide Tryd.prog W .any base 40 cs := by
    simpa [Value.okWide, Tryd.underlying40] using hv
  obtain ⟨fuel, hf⟩ := h
  obtain ⟨u, b, hb, hl, hc, hp⟩ := trod_ad hf
  have e2 : cs.toList = (SC 17 (adV u b)).toList := sc_list hl hc
  exact ⟨u, b, hb, congrArg Value.agg (Array.toList_inj.1 e2), hp⟩
theorem nuF : ∃ f0 f1 f2 f3 : Field, Tryd.prog.underlying 33 = some (.struct #[f0, f1, f2, f3]) ∧ f0.type = 29 ∧ f1.type = 3 ∧ f2.type = 3 ∧ f3.type = 9 ∧ f0.offset = 0 ∧ f1.offset = 1 ∧ f2.offset = 2 ∧ f3.offset = 3 := ⟨_, _, _, _, Tryd.underlying33, rfl, rfl, rfl, rfl, rfl, rfl, rfl, rfl⟩
theorem cNu : Tryd.prog.cellsOf 33 = 4 := by kernel_rfl
/-- A number, a size, a text and a place. -/
def nuV (n z a : Int) (s : ByteArray) (j : Nat) : Value := if j = 0 then .int .u64 n else if j = 1 then .int .i64 z else if j = 2 then .int .i64 a else .string s
theorem open_nu (hv : Value.okWide Tryd.prog W .any base 33 v) (h : DataW.Trod enc Tryd.prog W 0 sp true 33 v d p) : ∃ n z a s, (Lit.int .u64 n).wf = true ∧ (Lit.int .i64 z).wf = true ∧ (Lit.int .i64 a).wf = true ∧ v = .agg (SC 4 (nuV n z a s)) ∧ d = .agg [.lit (.int .u64 n), .lit (.int .i64 z), .lit (.int .i64 a), .lit (.string s.data.toList)] ∧ p = [] := by
  obtain ⟨cs, rfl, hsz, _⟩ : ∃ cs, v = .agg cs ∧ cs.size = Tryd.prog.cellsOf 33 ∧ Row.okWide Tryd.prog W .any base 33 cs := by
    simpa [Value.okWide, Tryd.underlying33] using hv
  obtain ⟨fuel, hf⟩ := h
  obtain ⟨f0, f1, f2, f3, hu, e0, e1, e2, e3, o0, o1, o2, o3⟩ := nuF
  obtain ⟨xs, n', _, hxx, hl, hxl, hff⟩ := DataW.trod_struct hu hf
  rw [cNu] at hl
  obtain ⟨y0, y1, y2, y3, rfl⟩ : ∃ y0 y1 y2 y3, xs = [y0, y1, y2, y3] := by
    match xs, hxl with
    | [c0, c1, c2, c3], _ => exact ⟨_, _, _, _, rfl⟩
  have g0 := hff 0 f0 rfl
  have g1 := hff 1 f1 rfl
  have g2 := hff 2 f2 rfl
  have g3 := hff 3 f3 rfl
  rw [e0, o0, show Tryd.prog.cellsOf 29 = 1 by kernel_rfl] at g0
  rw [e1, o1, cIn] at g1
  rw [e2, o2, cIn] at g2
  rw [e3, o3, show Tryd.prog.cellsOf 9 = 1 by kernel_rfl] at g3
  obtain ⟨n, hn, hn2, wn⟩ := DataW.trod_int Tryd.underlying29 g0
  obtain ⟨z, hz, hz2, wz⟩ := DataW.trod_int Tryd.underlying3 g1
  obtain ⟨a, ha, ha2, wa⟩ := DataW.trod_int Tryd.underlying3 g2
  obtain ⟨s, hs, hs2, ws⟩ := DataW.trod_string Tryd.underlying9 g3
  have k0 : y0 = _ := hn2
  have k1 : y1 = _ := hz2
  have k2 : y2 = _ := ha2
  have k3 : y3 = _ := hs2
  subst k0 k1 k2 k3
  obtain ⟨rfl, rfl⟩ := Prod.mk.inj hxx
  refine ⟨n, z, a, s, wn, wz, wa, ?_, rfl, rfl⟩
  have e2 : cs.toList = (SC 4 (nuV n z a s)).toList := sc_list hl (fun i hi => by
    match i, hi with
    | 0, _ => exact tk1 hn
    | 1, _ => exact tk1 hz
    | 2, _ => exact tk1 ha
    | 3, _ => exact tk1 hs)
  exact congrArg Value.agg (Array.toList_inj.1 e2)
end
end Go.Proofs.YtklgpmpmolphaaaDoor
