/-
  Own text. What twenty of the document's answer gives.
-/
import Derived.Test.YtfgebcemdjplnaaC2
import Derived.Test.YtfgebcemdjplnaaB5
namespace Go.Proofs.Ytfgebcemdjplnaa
open Go.RowKit Go.Proofs
/-- The first k columns of a round. -/
def col (s : Nat → Int) : Nat → Nat → Int
  | 0 => s
  | k + 1 => qrow (col s k) k (4 + k) (8 + k) (12 + k)
/-- The first k diagonals. -/
def dia (s : Nat → Int) : Nat → Nat → Int
  | 0 => s
  | k + 1 => qrow (dia s k) k (4 + (k + 1) % 4) (8 + (k + 2) % 4) (12 + (k + 3) % 4)
theorem dbl_cols (s : Nat → Int) : dia (col s 4) 4 = dbl s := rfl
theorem col_w {s : Nat → Int} (h : ∀ i, i < 16 → W32 (s i)) : ∀ k, k ≤ 4 → ∀ i, i < 16 → W32 (col s k i)
  | 0, _ => h
  | k + 1, hk => qrow_w (col_w h k (by omega)) (by omega) (by omega) (by omega) (by omega)
theorem dia_w {s : Nat → Int} (h : ∀ i, i < 16 → W32 (s i)) : ∀ k, k ≤ 4 → ∀ i, i < 16 → W32 (dia s k i)
  | 0, _ => h
  | k + 1, hk => qrow_w (dia_w h k (by omega)) (by omega) (by omega) (by omega) (by omega)
theorem tmod4 (k n : Nat) : ((k : Int) + n).tmod 4 = (((k + n) % 4 : Nat) : Int) := by
  rw [Int.tmod_eq_emod_of_nonneg (by omega)]; omega
theorem Touch.trans {b : Nat} {u v w : World} (h : Touch (fun k => k = b) u v) (k : Touch (fun k => k = b) v w) : Touch (fun k => k = b) u w :=
  ⟨k.os.trans h.os, k.tape.trans h.tape, k.output.trans h.output, Nat.le_trans h.size k.size, fun i hi hn => (k.block i (Nat.lt_of_lt_of_le hi h.size) hn).trans (h.block i hi hn)⟩
theorem cat_zero (f r : Nat → Int) : ∀ i, i < 0 + 16 → cat 0 f r i = r i := fun i _ => by simp [cat]
set_option maxHeartbeats 2000000 in
theorem twenty_run (s : Nat → Int) (b cp : Nat) (w : World) (hR : RowAt w b .i64 3 16 s) (hs : ∀ i, i < 16 → W32 (s i)) :
    Calls Try.prog 24 #[.slice (some ⟨b, 0, none⟩) 16 cp] w fun e w' => ∃ b' cp', e = .returned (.slice (some ⟨b', 0, none⟩) 16 cp') ∧ 16 ≤ cp' ∧ w.heap.size ≤ b' ∧ RowAt w' b' .i64 3 16 (rnds s 10) ∧ Below w.heap.size w w' := by
  go_enter Try.func24, Try.ntmps24
  have HR : Hid (∀ j, j < 16 → (w.alloc (.cells #[] 3)).cell? ⟨b, 0 + j, none⟩ = some (.int .i64 (s j))) := Hid.mk (fun j hj => by rw [Nat.zero_add]; exact (hR.alloc _).cell j hj)
  clear hR
  go_wp2_with (at_builtin; refine ap_full rfl _ _ 23 3 .i64 8 Try.underlying23 infoInt (by decide) (by rfl) (n := 0) (m := 16) (f := s) (by rfl) (fun j hj => by omega) (by rfl) (r := s) HR.out (by decide) (by decide) ?_; intro va v1 h1 hb1; refine Hid.out ?_)
  clear HR
  rw [nums_congr (cat_zero s s)] at h1
  obtain ⟨b', cp', rfl, hbb, hcp, hR⟩ := own_row h1 (by decide)
  replace hcp : 16 ≤ cp' := hcp
  replace hR : RowAt v1 b' .i64 3 16 (rnds s 0) := hR
  replace hbb : w.heap.size ≤ b' := by simp at hbb; omega
  have hB : Below w.heap.size w v1 := Below.trans ((Below.refl _ w).alloc (Nat.le_refl _) _) (hb1.mono (by simp))
  clear h1 hb1
  refine Hid.mk ?_
  simp only [Nat.zero_add]
  go_wp2_with fail
  go_loopg [3] 10 (fun m i v => ∃ k : Nat, Hid (m + k = 10) ∧ i = .int .i64 k ∧ RowAt v b' .i64 3 16 (rnds s k) ∧ Below w.heap.size w v)
  case atStart => exact ⟨0, Hid.mk rfl, rfl, hR, hB⟩
  case round =>
    clear hR hB
    obtain ⟨k, HK, rfl, hR, hB⟩ := hrel
    have hk10 : k ≤ 10 := by have := HK.out; omega
    by_cases hlt : k < 10
    · have HN : Hid (dia (col (rnds s k) 4) 4 = rnds s (k + 1)) := Hid.mk rfl
      have W0 := rnds_w hs k
      generalize rnds s k = s0 at *
      have hd : decide ((k : Int) < 10) = true := by simp; omega
      go_wp2_with fail
      generalize wr = wo at *
      go_loopg [4] 4 (fun m i v => ∃ j : Nat, Hid (m + j = 4) ∧ i = .int .i64 j ∧ RowAt v b' .i64 3 16 (col s0 j) ∧ Below w.heap.size w v)
      case atStart => exact ⟨0, Hid.mk rfl, rfl, hR, hB⟩
      case round =>
        clear hR hB
        obtain ⟨j, HJ, rfl, hR, hB⟩ := hrel
        have hj4 : j ≤ 4 := by have := HJ.out; omega
        by_cases hjl : j < 4
        · go_wp2_with fail
          refine (rquarter_run b' 16 cp' (col s0 j) j (4 + j) (8 + j) (12 + j) wr hR (col_w W0 j hj4) (by omega) (by omega) (by omega) (by omega) (by omega) (by omega) (by omega) (by omega) (by omega) (by omega)).mono ?_
          rintro e v2 ⟨rfl, hR2, hT⟩
          replace hB := hB.trans (below_touch hT hbb hB.size)
          clear hT hR
          go_wp2_with fail
          go_roundg (4 - (j + 1))
          case rel => exact ⟨j + 1, Hid.mk (by omega), by go_num, hR2, hB⟩
          case measure => have := HJ.out; omega
        · have hj2 : j = 4 := by omega
          subst hj2
          clear hjl hj4 HJ
          have W1 := col_w W0 4 (Nat.le_refl _)
          generalize col s0 4 = s1 at *
          go_wp2_with fail
          rw [show ((4 : Nat) : Int) = 4 from rfl]
          generalize wr = wo2 at *
          go_loopg [5] 4 (fun m i v => ∃ j : Nat, Hid (m + j = 4) ∧ i = .int .i64 j ∧ RowAt v b' .i64 3 16 (dia s1 j) ∧ Below w.heap.size w v)
          case atStart => exact ⟨0, Hid.mk rfl, rfl, hR, hB⟩
          case round =>
            clear hR hB
            obtain ⟨j, HJ, rfl, hR, hB⟩ := hrel
            have hj4 : j ≤ 4 := by have := HJ.out; omega
            by_cases hjl : j < 4
            · have t1 : ((j : Int) + 1).tmod 4 = (((j + 1) % 4 : Nat) : Int) := tmod4 j 1
              have t2 : ((j : Int) + 2).tmod 4 = (((j + 2) % 4 : Nat) : Int) := tmod4 j 2
              have t3 : ((j : Int) + 3).tmod 4 = (((j + 3) % 4 : Nat) : Int) := tmod4 j 3
              have hr := rquarter_run b' 16 cp' (dia s1 j) j (4 + (j + 1) % 4) (8 + (j + 2) % 4) (12 + (j + 3) % 4) wr hR (dia_w W1 j hj4) (by omega) (by omega) (by omega) (by omega) (by omega) (by omega) (by omega) (by omega) (by omega) (by omega)
              have HR : Hid (∀ v, RowAt v b' .i64 3 16 (qrow (dia s1 j) j (4 + (j + 1) % 4) (8 + (j + 2) % 4) (12 + (j + 3) % 4)) → RowAt v b' .i64 3 16 (dia s1 (j + 1))) := Hid.mk (fun _ h => h)
              have m1 : (j + 1) % 4 < 4 := by omega
              have m2 : (j + 2) % 4 < 4 := by omega
              have m3 : (j + 3) % 4 < 4 := by omega
              generalize (j + 1) % 4 = x1 at *
              generalize (j + 2) % 4 = x2 at *
              generalize (j + 3) % 4 = x3 at *
              go_wp2_with fail
              refine hr.mono ?_
              rintro e v2 ⟨rfl, hR2, hT⟩
              replace hB := hB.trans (below_touch hT hbb hB.size)
              clear hT hR hr
              replace hR2 := HR.out _ hR2
              go_wp2_with fail
              go_roundg (4 - (j + 1))
              case rel => exact ⟨j + 1, Hid.mk (by omega), by go_num, hR2, hB⟩
              case measure => have := HJ.out; omega
            · have hj2 : j = 4 := by omega
              subst hj2
              clear hjl hj4 HJ
              rw [HN.out] at hR
              go_wp2_with fail
              go_roundg (10 - (k + 1))
              case rel => exact ⟨k + 1, Hid.mk (by omega), by go_num, hR, hB⟩
              case measure => have := HK.out; omega
    · have hk2 : k = 10 := by omega
      subst hk2
      go_wp2_with fail
      go_ret
      exact ⟨b', cp', rfl, hcp, hbb, hR, hB⟩
end Go.Proofs.Ytfgebcemdjplnaa
