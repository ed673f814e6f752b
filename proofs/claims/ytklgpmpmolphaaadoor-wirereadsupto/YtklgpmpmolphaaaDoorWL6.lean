/-
  Own text. WireReads: any text, and any bytes, are read as the document says.
-/
import Derived.Test.YtklgpmpmolphaaaDoorJ5
import Derived.Test.YtklgpmpmolphaaaDoorWD9
import Derived.Test.YtklgpmpmolphaaaDoorJ3
namespace Go.Proofs.YtklgpmpmolphaaaDoor
open Go.RowKit Go.Proofs
set_option maxRecDepth 100000
theorem parse_shape {R : Option (Bool × List Nat)} {e : Ending} (h : ParseQ R e) : ∃ v b er, e = .returned (.tuple #[.agg (SC 17 (adV v b)), .int .i64 er]) ∧ ∀ e', ParseQ R e' → e' = .returned (.tuple #[.agg (SC 17 (adV v b)), .int .i64 er]) := by
  rcases h with ⟨l, hl, he⟩ | ⟨l, hl, he⟩ | ⟨hl, he⟩
  · refine ⟨_, _, _, he, fun e' h' => ?_⟩
    rcases h' with ⟨m, hm, hf⟩ | ⟨m, hm, hf⟩ | ⟨hm, hf⟩
    · rw [hl] at hm
      injection hm with hm
      injection hm with _ hm
      rw [hf, hm]
    · rw [hl] at hm
      injection hm with hm
      injection hm with hm _
      cases hm
    · rw [hl] at hm
      cases hm
  · refine ⟨_, _, _, he, fun e' h' => ?_⟩
    rcases h' with ⟨m, hm, hf⟩ | ⟨m, hm, hf⟩ | ⟨hm, hf⟩
    · rw [hl] at hm
      injection hm with hm
      injection hm with hm _
      cases hm
    · rw [hl] at hm
      injection hm with hm
      injection hm with _ hm
      rw [hf, hm]
    · rw [hl] at hm
      cases hm
  · refine ⟨_, _, _, he, fun e' h' => ?_⟩
    rcases h' with ⟨m, hm, hf⟩ | ⟨m, hm, hf⟩ | ⟨hm, hf⟩
    · rw [hl] at hm
      cases hm
    · rw [hl] at hm
      cases hm
    · exact hf
theorem parse_told (R : Option (Bool × List Nat)) : ∃ v b er, ∀ e, ParseQ R e → e = .returned (.tuple #[.agg (SC 17 (adV v b)), .int .i64 er]) := by
  match R with
  | some (false, l) => exact ⟨false, lsB l, 0, fun e h => by
      obtain ⟨v, b, er, he, hu⟩ := parse_shape h
      rw [he]
      exact (hu _ (.inl ⟨l, rfl, rfl⟩)).symm⟩
  | some (true, l) => exact ⟨true, prB l, 0, fun e h => by
      obtain ⟨v, b, er, he, hu⟩ := parse_shape h
      rw [he]
      exact (hu _ (.inr (.inl ⟨l, rfl, rfl⟩))).symm⟩
  | none => exact ⟨false, fun _ => 0, 76, fun e h => by
      obtain ⟨v, b, er, he, hu⟩ := parse_shape h
      rw [he]
      exact (hu _ (.inr (.inr ⟨rfl, rfl⟩))).symm⟩
theorem from_told (s : ByteArray) : ∃ v b er, (∀ ww, Calls Tryd.prog 32 #[.string s] ww fun e w' => e = .returned (.tuple #[.agg (SC 17 (adV v b)), .int .i64 er]) ∧ Below ww.heap.size ww w') ∧ ∀ ww, Calls Tryd.prog 33 #[.string s] ww fun e w' => e = .returned (.tuple #[.agg (SC 17 (adV v b)), .int .i64 er]) ∧ Below ww.heap.size ww w' := by
  by_cases h4 : s.size = 4
  · exact ⟨_, _, _, fun ww => From_run s ww (.inl h4), fun ww => rFrom_run s ww (.inl h4)⟩
  · by_cases h16 : s.size = 16
    · exact ⟨_, _, _, fun ww => From_run s ww (.inr h16), fun ww => rFrom_run s ww (.inr h16)⟩
    · exact ⟨_, _, _, fun ww => From_no s ww h4 h16, fun ww => rFrom_no s ww h4 h16⟩
theorem eqAF_me (v : Bool) (b : Nat → Int) : eqAF v b v b = true := eqAF_iff.2 ⟨rfl, fun _ _ => rfl⟩
set_option maxHeartbeats 32000000 in
theorem reads_walk (s : ByteArray) (w : World) (hs : s.size ≤ 1048576) (hE : Env w) : Calls Tryd.prog 7 #[.string s] w fun e w' => e = .returned (.bool true) ∧ Below w.heap.size w w' := by
  obtain ⟨v, b, er, hP⟩ := parse_told (parV (lsT s))
  obtain ⟨v2, b2, er2, hF1, hF2⟩ := from_told s
  have H1 : Hid (∀ ww, Env ww → Calls Tryd.prog 30 #[.string s] ww fun e w' => e = .returned (.tuple #[.agg (SC 17 (adV v b)), .int .i64 er]) ∧ Below ww.heap.size ww w') := Hid.mk (fun ww h => (Parse_run s ww (by omega) h).mono (fun e w' hh => ⟨hP e hh.1, hh.2⟩))
  have H2 : Hid (∀ ww, Env ww → Calls Tryd.prog 31 #[.string s] ww fun e w' => e = .returned (.tuple #[.agg (SC 17 (adV v b)), .int .i64 er]) ∧ Below ww.heap.size ww w') := Hid.mk (fun ww h => (rParse_run s ww (by omega) h.1).mono (fun e w' hh => ⟨hP e hh.1, hh.2⟩))
  have H3 : Hid (∀ ww, Env ww → Calls Tryd.prog 32 #[.string s] ww fun e w' => e = .returned (.tuple #[.agg (SC 17 (adV v2 b2)), .int .i64 er2]) ∧ Below ww.heap.size ww w') := Hid.mk (fun ww _ => hF1 ww)
  have H4 : Hid (∀ ww, Env ww → Calls Tryd.prog 33 #[.string s] ww fun e w' => e = .returned (.tuple #[.agg (SC 17 (adV v2 b2)), .int .i64 er2]) ∧ Below ww.heap.size ww w') := Hid.mk (fun ww _ => hF2 ww)
  have HQ1 := Hid.mk (eqAF_me v b)
  have HQ2 := Hid.mk (eqAF_me v2 b2)
  clear hP hF1 hF2
  go_enter Tryd.func7, Tryd.ntmps7
  go_wp2_with (go_at_call 9; refine (awake_run _ hE).mono ?_; rintro e x0 ⟨rfl, hB1⟩; refine Hid.out ?_)
  refine Hid.mk ?_
  go_wp2_with (go_at_call 30; refine (H1.out _ (hE.kept hB1)).mono ?_; rintro e x1 ⟨rfl, hc1⟩; refine Hid.out ?_)
  refine Hid.mk ?_
  have hB1a := hB1.trans (hc1.mono hB1.size)
  go_wp2_with (refine wl_alO rfl rfl zeroAddr ?_; intro g1 y1 hg1 q1 hd1; refine Hid.out ?_)
  refine Hid.mk ?_
  have hB1b := hB1a.trans (hd1.mono hB1a.size)
  have hg1w : w.heap.size ≤ g1 := by have := hB1a.size; omega
  go_wp2_with (refine st_stO rfl rfl isAddr (adV_one _ _) q1 (by rfl) (by rfl) ?_; intro z1 r1 o1; refine Hid.out ?_)
  refine Hid.mk ?_
  have hB2 := hB1b.trans (o1.below hg1w)
  clear hc1 hd1 q1 o1 hB1 hB1a hB1b hg1
  go_wp2_with (go_at_call 31; refine (H2.out _ (hE.kept hB2)).mono ?_; rintro e x2 ⟨rfl, hc2⟩; refine Hid.out ?_)
  refine Hid.mk ?_
  have r1a := SAt.kept r1 hc2
  have hB2a := hB2.trans (hc2.mono hB2.size)
  go_wp2_with (refine wl_alO rfl rfl zeroAddr ?_; intro g2 y2 hg2 q2 hd2; refine Hid.out ?_)
  refine Hid.mk ?_
  have hB2b := hB2a.trans (hd2.mono hB2a.size)
  have hg2w : w.heap.size ≤ g2 := by have := hB2a.size; omega
  have n12 : g1 ≠ g2 := by have := SAt.lt r1a; omega
  have r1b := SAt.kept r1a hd2
  go_wp2_with (refine st_stO rfl rfl isAddr (adV_one _ _) q2 (by rfl) (by rfl) ?_; intro z2 r2 o2; refine Hid.out ?_)
  refine Hid.mk ?_
  have hB3 := hB2b.trans (o2.below hg2w)
  have r1c := r1b.only o2 n12
  clear hc2 hd2 q2 o2 hB2 hB2a hB2b hg2 r1 r1a r1b
  have r1 := r1c
  clear r1c
  go_wp2_with (go_at_call 32; refine (H3.out _ (hE.kept hB3)).mono ?_; rintro e x3 ⟨rfl, hc3⟩; refine Hid.out ?_)
  refine Hid.mk ?_
  have r1a := SAt.kept r1 hc3
  have r2a := SAt.kept r2 hc3
  have hB3a := hB3.trans (hc3.mono hB3.size)
  go_wp2_with (refine wl_alO rfl rfl zeroAddr ?_; intro g3 y3 hg3 q3 hd3; refine Hid.out ?_)
  refine Hid.mk ?_
  have hB3b := hB3a.trans (hd3.mono hB3a.size)
  have hg3w : w.heap.size ≤ g3 := by have := hB3a.size; omega
  have n13 : g1 ≠ g3 := by have := SAt.lt r1a; omega
  have r1b := SAt.kept r1a hd3
  have n23 : g2 ≠ g3 := by have := SAt.lt r2a; omega
  have r2b := SAt.kept r2a hd3
  go_wp2_with (refine st_stO rfl rfl isAddr (adV_one _ _) q3 (by rfl) (by rfl) ?_; intro z3 r3 o3; refine Hid.out ?_)
  refine Hid.mk ?_
  have hB4 := hB3b.trans (o3.below hg3w)
  have r1c := r1b.only o3 n13
  have r2c := r2b.only o3 n23
  clear hc3 hd3 q3 o3 hB3 hB3a hB3b hg3 r1 r1a r1b r2 r2a r2b
  have r1 := r1c
  clear r1c
  have r2 := r2c
  clear r2c
  go_wp2_with (go_at_call 33; refine (H4.out _ (hE.kept hB4)).mono ?_; rintro e x4 ⟨rfl, hc4⟩; refine Hid.out ?_)
  refine Hid.mk ?_
  have r1a := SAt.kept r1 hc4
  have r2a := SAt.kept r2 hc4
  have r3a := SAt.kept r3 hc4
  have hB4a := hB4.trans (hc4.mono hB4.size)
  go_wp2_with (refine wl_alO rfl rfl zeroAddr ?_; intro g4 y4 hg4 q4 hd4; refine Hid.out ?_)
  refine Hid.mk ?_
  have hB4b := hB4a.trans (hd4.mono hB4a.size)
  have hg4w : w.heap.size ≤ g4 := by have := hB4a.size; omega
  have n14 : g1 ≠ g4 := by have := SAt.lt r1a; omega
  have r1b := SAt.kept r1a hd4
  have n24 : g2 ≠ g4 := by have := SAt.lt r2a; omega
  have r2b := SAt.kept r2a hd4
  have n34 : g3 ≠ g4 := by have := SAt.lt r3a; omega
  have r3b := SAt.kept r3a hd4
  go_wp2_with (refine st_stO rfl rfl isAddr (adV_one _ _) q4 (by rfl) (by rfl) ?_; intro z4 r4 o4; refine Hid.out ?_)
  refine Hid.mk ?_
  have hB5 := hB4b.trans (o4.below hg4w)
  have r1c := r1b.only o4 n14
  have r2c := r2b.only o4 n24
  have r3c := r3b.only o4 n34
  clear hc4 hd4 q4 o4 hB4 hB4a hB4b hg4 r1 r1a r1b r2 r2a r2b r3 r3a r3b
  have r1 := r1c
  clear r1c
  have r2 := r2c
  clear r2c
  have r3 := r3c
  clear r3c
  go_wp2_with (first | (refine wl_value rfl (look_st rfl isAddr r1 (by rfl)) ?_) | (refine wl_value rfl (look_st rfl isAddr r2 (by rfl)) ?_) | (refine wl_value rfl (look_st rfl isAddr r3 (by rfl)) ?_) | (refine wl_value rfl (look_st rfl isAddr r4 (by rfl)) ?_) | (refine wl_value rfl (exec_eqA (v := v) (b := b) rfl (by rfl) (by rfl)) ?_; simp only [HQ1.out]) | (refine wl_value rfl (exec_eqA (v := v2) (b := b2) rfl (by rfl) (by rfl)) ?_; simp only [HQ2.out]))
  go_ret
  exact ⟨rfl, hB5⟩
end Go.Proofs.YtklgpmpmolphaaaDoor
