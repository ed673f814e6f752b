/-
  Own text. The document's Text: an address that may not be.
-/
import Derived.Test.YtdlepeogmjmleaaDoorJ4
namespace Go.Proofs.YtdlepeogmjmleaaDoor
open Go.RowKit Go.Proofs
set_option maxRecDepth 100000
theorem rText_no (v : Bool) (b : Nat → Int) (w : World) (hv : validF v b = false) : Calls Tryd.prog 6 #[.agg (SC 17 (adV v b))] w fun e w' => e = .returned (.tuple #[.string ByteArray.empty, .int .i64 1]) ∧ Below w.heap.size w w' := by
  have HR := Hid.mk hv
  clear hv
  go_enter Tryd.func6, Tryd.ntmps6
  go_wp2_with (refine wl_boxO rfl rfl isAddr (by rfl) ?_; intro g u1 hg g1 hB1; refine Hid.out ?_)
  refine Hid.mk ?_
  go_wp2_with (first | (refine wl_value rfl (look_st rfl isAddr g1 (by rfl)) ?_) | (go_at_call 8; refine (rValid_run v b _).mono ?_; rintro e w2 ⟨rfl, hB2⟩; simp only [HR.out]; refine Hid.out ?_))
  refine Hid.mk ?_
  go_wp2_with fail
  exact bodyPost_ret (results_two rfl (by rfl) (by rfl)) rfl ⟨rfl, hB1.trans (hB2.mono hB1.size)⟩
def dotZ : ByteArray := ⟨#[46]⟩
theorem decS_le (n : Nat) : (decS n).size ≤ 3 := by
  unfold decS decT
  split
  · exact (by decide : 1 ≤ 3)
  · split
    · exact (by decide : 2 ≤ 3)
    · exact (by decide : 3 ≤ 3)
theorem fourS_cat (b : Nat → Int) : fourS b = decS (b 0).toNat ++ dotZ ++ decS (b 1).toNat ++ dotZ ++ decS (b 2).toNat ++ dotZ ++ decS (b 3).toNat := by
  apply lsT_inj
  simp only [lsT_app, decS_ls]
  show fourT _ _ _ _ = _
  unfold fourT
  simp [show lsT dotZ = [46] from rfl]
set_option maxHeartbeats 8000000 in
theorem rText_four (b : Nat → Int) (w : World) (hb : Byts 16 b) (hE : Env w) (hv : validF false b = true) : Calls Tryd.prog 6 #[.agg (SC 17 (adV false b))] w fun e w' => e = .returned (.tuple #[.string (fourS b), .int .i64 0]) ∧ Below w.heap.size w w' := by
  have HR := Hid.mk hv
  clear hv
  have h0 := hb 0 (by omega)
  obtain ⟨n0, hn0⟩ : ∃ n : Nat, b 0 = (n : Int) := ⟨(b 0).toNat, by omega⟩
  have hl0 : n0 < 256 := by omega
  obtain ⟨d0, hd0⟩ : ∃ d, decS n0 = d := ⟨_, rfl⟩
  have hz0 : d0.size ≤ 3 := by rw [← hd0]; exact decS_le n0
  have h1 := hb 1 (by omega)
  obtain ⟨n1, hn1⟩ : ∃ n : Nat, b 1 = (n : Int) := ⟨(b 1).toNat, by omega⟩
  have hl1 : n1 < 256 := by omega
  obtain ⟨d1, hd1⟩ : ∃ d, decS n1 = d := ⟨_, rfl⟩
  have hz1 : d1.size ≤ 3 := by rw [← hd1]; exact decS_le n1
  have h2 := hb 2 (by omega)
  obtain ⟨n2, hn2⟩ : ∃ n : Nat, b 2 = (n : Int) := ⟨(b 2).toNat, by omega⟩
  have hl2 : n2 < 256 := by omega
  obtain ⟨d2, hd2⟩ : ∃ d, decS n2 = d := ⟨_, rfl⟩
  have hz2 : d2.size ≤ 3 := by rw [← hd2]; exact decS_le n2
  have h3 := hb 3 (by omega)
  obtain ⟨n3, hn3⟩ : ∃ n : Nat, b 3 = (n : Int) := ⟨(b 3).toNat, by omega⟩
  have hl3 : n3 < 256 := by omega
  obtain ⟨d3, hd3⟩ : ∃ d, decS n3 = d := ⟨_, rfl⟩
  have hz3 : d3.size ≤ 3 := by rw [← hd3]; exact decS_le n3
  have HF : Hid (fourS b = d0 ++ dotZ ++ d1 ++ dotZ ++ d2 ++ dotZ ++ d3) := Hid.mk (by rw [fourS_cat, hn0, hn1, hn2, hn3]; simp [hd0, hd1, hd2, hd3])
  have HZ : Hid (d0.size ≤ 3 ∧ d1.size ≤ 3 ∧ d2.size ≤ 3 ∧ d3.size ≤ 3 ∧ dotZ.size = 1) := Hid.mk ⟨hz0, hz1, hz2, hz3, rfl⟩
  clear hz0 hz1 hz2 hz3 h0 h1 h2 h3
  go_enter Tryd.func6, Tryd.ntmps6
  go_wp2_with (refine wl_boxO rfl rfl isAddr (by rfl) ?_; intro g u1 hg g1 hB1; refine Hid.out ?_)
  refine Hid.mk ?_
  go_wp2_with (first | (refine wl_value rfl (look_st rfl isAddr g1 (by rfl)) ?_) | (go_at_call 8; refine (rValid_run false b _).mono ?_; rintro e u2 ⟨rfl, hB2⟩; simp only [HR.out]; refine Hid.out ?_))
  refine Hid.mk ?_
  have g2 := SAt.kept g1 hB2
  have c0 := ad_v g2
  have hB3 := hB1.trans (hB2.mono hB1.size)
  have HE := Hid.mk (hE.kept hB3)
  have HC0 : Hid (∀ ww, Below u2.heap.size u2 ww → ww.cell? ⟨g, 1 + 0, none⟩ = some (.int .u8 (n0 : Int))) := Hid.mk (fun ww hh => by
    have := ad_b (SAt.kept g2 hh) 0 (by omega)
    rw [hn0] at this
    exact this)
  have HI0 : Hid (∀ ww, Below u2.heap.size u2 ww → Calls Tryd.prog 23 #[.int .i64 (n0 : Int)] ww fun e w' => e = .returned (.string d0) ∧ Below ww.heap.size ww w') := Hid.mk (fun ww hh => by
    rw [← hd0]
    exact Itoa_run n0 ww hl0 (HE.out.kept hh).1)
  have HC1 : Hid (∀ ww, Below u2.heap.size u2 ww → ww.cell? ⟨g, 1 + 1, none⟩ = some (.int .u8 (n1 : Int))) := Hid.mk (fun ww hh => by
    have := ad_b (SAt.kept g2 hh) 1 (by omega)
    rw [hn1] at this
    exact this)
  have HI1 : Hid (∀ ww, Below u2.heap.size u2 ww → Calls Tryd.prog 23 #[.int .i64 (n1 : Int)] ww fun e w' => e = .returned (.string d1) ∧ Below ww.heap.size ww w') := Hid.mk (fun ww hh => by
    rw [← hd1]
    exact Itoa_run n1 ww hl1 (HE.out.kept hh).1)
  have HC2 : Hid (∀ ww, Below u2.heap.size u2 ww → ww.cell? ⟨g, 1 + 2, none⟩ = some (.int .u8 (n2 : Int))) := Hid.mk (fun ww hh => by
    have := ad_b (SAt.kept g2 hh) 2 (by omega)
    rw [hn2] at this
    exact this)
  have HI2 : Hid (∀ ww, Below u2.heap.size u2 ww → Calls Tryd.prog 23 #[.int .i64 (n2 : Int)] ww fun e w' => e = .returned (.string d2) ∧ Below ww.heap.size ww w') := Hid.mk (fun ww hh => by
    rw [← hd2]
    exact Itoa_run n2 ww hl2 (HE.out.kept hh).1)
  have HC3 : Hid (∀ ww, Below u2.heap.size u2 ww → ww.cell? ⟨g, 1 + 3, none⟩ = some (.int .u8 (n3 : Int))) := Hid.mk (fun ww hh => by
    have := ad_b (SAt.kept g2 hh) 3 (by omega)
    rw [hn3] at this
    exact this)
  have HI3 : Hid (∀ ww, Below u2.heap.size u2 ww → Calls Tryd.prog 23 #[.int .i64 (n3 : Int)] ww fun e w' => e = .returned (.string d3) ∧ Below ww.heap.size ww w') := Hid.mk (fun ww hh => by
    rw [← hd3]
    exact Itoa_run n3 ww hl3 (HE.out.kept hh).1)
  clear hd0 hd1 hd2 hd3 hn0 hn1 hn2 hn3 g1 hB1 hB2 HR
  go_upto_region 5 with (refine wl_value rfl (exec_fadW0 rfl (by rfl)) ?_)
  refine wp_region3 (Below u2.heap.size u2) u2.heap.size
      ([] : List (Nat × Cont))
      [kv (.pointer (some ⟨g, 1, none⟩)), kv (.pointer (some ⟨g, 1 + 0, none⟩)), kv (.int .u8 (n0 : Int)), kv (.int .i64 (n0 : Int)), kv (.string d0), kv (.string (d0 ++ dotZ)), kv (.pointer (some ⟨g, 1, none⟩)), kv (.pointer (some ⟨g, 1 + 1, none⟩)), kv (.int .u8 (n1 : Int)), kv (.int .i64 (n1 : Int)), kv (.string d1), kv (.string ((d0 ++ dotZ) ++ d1)), kv (.string (((d0 ++ dotZ) ++ d1) ++ dotZ)), kv (.pointer (some ⟨g, 1, none⟩)), kv (.pointer (some ⟨g, 1 + 2, none⟩)), kv (.int .u8 (n2 : Int)), kv (.int .i64 (n2 : Int)), kv (.string d2), kv (.string ((((d0 ++ dotZ) ++ d1) ++ dotZ) ++ d2)), kv (.string (((((d0 ++ dotZ) ++ d1) ++ dotZ) ++ d2) ++ dotZ)), kv (.pointer (some ⟨g, 1, none⟩)), kv (.pointer (some ⟨g, 1 + 3, none⟩)), kv (.int .u8 (n3 : Int)), kv (.int .i64 (n3 : Int)), kv (.string d3), kv (.string ((((((d0 ++ dotZ) ++ d1) ++ dotZ) ++ d2) ++ dotZ) ++ d3)), kv (.string ((((((d0 ++ dotZ) ++ d1) ++ dotZ) ++ d2) ++ dotZ) ++ d3)), kv (.int .i64 0)]
      [.none, .none, .none, .none, .none, .none, .none, .none, .none, .none, .none, .none, .none, .none, .none, .none, .none, .none, .none, .none, .none, .none, .none, .none, .none, .none, .none, .none]
      [some 16, some 17, some 18, some 19, some 20, some 21, some 22, some 23, some 24, some 25, some 26, some 27, some 28, some 29, some 30, some 31, some 32, some 33, some 34, some 35, some 36, some 37, some 38, some 39, some 40, some 41, some 2, some 3]
      [(1, .pointer (some ⟨g, 0, none⟩))]
      [[], [.slot 0], [.slot 1], [.slot 2], [.slot 3], [.slot 4], [], [.slot 6], [.slot 7], [.slot 8], [.slot 9], [.slot 5, .slot 10], [.slot 11], [], [.slot 13], [.slot 14], [.slot 15], [.slot 16], [.slot 12, .slot 17], [.slot 18], [], [.slot 20], [.slot 21], [.slot 22], [.slot 23], [.slot 19, .slot 24], [.slot 25], []]
      [.slot 26, .slot 27] [16, 17, 18, 19, 20, 21, 22, 23, 24, 25, 26, 27, 28, 29, 30, 31, 32, 33, 34, 35, 36, 37, 38, 39, 40, 41, 2, 3]
      rfl (by kernel_rfl) ⟨rfl, trivial⟩ ((Below.refl _ u2).drew) (Nat.le_refl _) trivial trivial (below_GcW (Nat.le_refl _))
      ⟨
        (fun Q aq ww own hS hBg fr kn => .inl ⟨trivial, fun K hK => wp_value (exec_fadW1 rfl fr.1) (hK _ _ ⟨Touch.refl _ _, rfl⟩)⟩),
        (fun Q aq ww own hS hBg fr kn => .inl ⟨trivial, fun K hK => wp_value (exec_ixW16 (k := 0) rfl kn.1 rfl (by decide)) (hK _ _ ⟨Touch.refl _ _, rfl⟩)⟩),
        (fun Q aq ww own hS hBg fr kn => .inl ⟨trivial, fun K hK => wp_value (exec_ld rfl kn.1 (ldW8 (HC0.out ww hS))) (hK _ _ ⟨Touch.refl _ _, rfl⟩)⟩),
        (fun Q aq ww own hS hBg fr kn => .inl ⟨trivial, fun K hK => wp_value (exec_cvW (m := (n0 : Int)) rfl kn.1 (by omega) (by omega)) (hK _ _ ⟨Touch.refl _ _, rfl⟩)⟩),
        (fun Q aq ww own hS hBg fr kn => .inl ⟨trivial, fun K hK => stepc enterW_It rfl (args1 kn.1) (HI0.out ww hS) (fun w' hb => hK _ _ ⟨touch_below hb, rfl⟩)⟩),
        (fun Q aq ww own hS hBg fr kn => .inl ⟨trivial, fun K hK => wp_value (exec_catS (t := dotZ) rfl kn.1 rfl (by (try simp only [ByteArray.size_append]); have := HZ.out; omega)) (hK _ _ ⟨Touch.refl _ _, rfl⟩)⟩),
        (fun Q aq ww own hS hBg fr kn => .inl ⟨trivial, fun K hK => wp_value (exec_fadW1 rfl fr.1) (hK _ _ ⟨Touch.refl _ _, rfl⟩)⟩),
        (fun Q aq ww own hS hBg fr kn => .inl ⟨trivial, fun K hK => wp_value (exec_ixW16 (k := 1) rfl kn.1 rfl (by decide)) (hK _ _ ⟨Touch.refl _ _, rfl⟩)⟩),
        (fun Q aq ww own hS hBg fr kn => .inl ⟨trivial, fun K hK => wp_value (exec_ld rfl kn.1 (ldW8 (HC1.out ww hS))) (hK _ _ ⟨Touch.refl _ _, rfl⟩)⟩),
        (fun Q aq ww own hS hBg fr kn => .inl ⟨trivial, fun K hK => wp_value (exec_cvW (m := (n1 : Int)) rfl kn.1 (by omega) (by omega)) (hK _ _ ⟨Touch.refl _ _, rfl⟩)⟩),
        (fun Q aq ww own hS hBg fr kn => .inl ⟨trivial, fun K hK => stepc enterW_It rfl (args1 kn.1) (HI1.out ww hS) (fun w' hb => hK _ _ ⟨touch_below hb, rfl⟩)⟩),
        (fun Q aq ww own hS hBg fr kn => .inl ⟨trivial, fun K hK => wp_value (exec_catS rfl kn.1 kn.2.1 (by (try simp only [ByteArray.size_append]); have := HZ.out; omega)) (hK _ _ ⟨Touch.refl _ _, rfl⟩)⟩),
        (fun Q aq ww own hS hBg fr kn => .inl ⟨trivial, fun K hK => wp_value (exec_catS (t := dotZ) rfl kn.1 rfl (by (try simp only [ByteArray.size_append]); have := HZ.out; omega)) (hK _ _ ⟨Touch.refl _ _, rfl⟩)⟩),
        (fun Q aq ww own hS hBg fr kn => .inl ⟨trivial, fun K hK => wp_value (exec_fadW1 rfl fr.1) (hK _ _ ⟨Touch.refl _ _, rfl⟩)⟩),
        (fun Q aq ww own hS hBg fr kn => .inl ⟨trivial, fun K hK => wp_value (exec_ixW16 (k := 2) rfl kn.1 rfl (by decide)) (hK _ _ ⟨Touch.refl _ _, rfl⟩)⟩),
        (fun Q aq ww own hS hBg fr kn => .inl ⟨trivial, fun K hK => wp_value (exec_ld rfl kn.1 (ldW8 (HC2.out ww hS))) (hK _ _ ⟨Touch.refl _ _, rfl⟩)⟩),
        (fun Q aq ww own hS hBg fr kn => .inl ⟨trivial, fun K hK => wp_value (exec_cvW (m := (n2 : Int)) rfl kn.1 (by omega) (by omega)) (hK _ _ ⟨Touch.refl _ _, rfl⟩)⟩),
        (fun Q aq ww own hS hBg fr kn => .inl ⟨trivial, fun K hK => stepc enterW_It rfl (args1 kn.1) (HI2.out ww hS) (fun w' hb => hK _ _ ⟨touch_below hb, rfl⟩)⟩),
        (fun Q aq ww own hS hBg fr kn => .inl ⟨trivial, fun K hK => wp_value (exec_catS rfl kn.1 kn.2.1 (by (try simp only [ByteArray.size_append]); have := HZ.out; omega)) (hK _ _ ⟨Touch.refl _ _, rfl⟩)⟩),
        (fun Q aq ww own hS hBg fr kn => .inl ⟨trivial, fun K hK => wp_value (exec_catS (t := dotZ) rfl kn.1 rfl (by (try simp only [ByteArray.size_append]); have := HZ.out; omega)) (hK _ _ ⟨Touch.refl _ _, rfl⟩)⟩),
        (fun Q aq ww own hS hBg fr kn => .inl ⟨trivial, fun K hK => wp_value (exec_fadW1 rfl fr.1) (hK _ _ ⟨Touch.refl _ _, rfl⟩)⟩),
        (fun Q aq ww own hS hBg fr kn => .inl ⟨trivial, fun K hK => wp_value (exec_ixW16 (k := 3) rfl kn.1 rfl (by decide)) (hK _ _ ⟨Touch.refl _ _, rfl⟩)⟩),
        (fun Q aq ww own hS hBg fr kn => .inl ⟨trivial, fun K hK => wp_value (exec_ld rfl kn.1 (ldW8 (HC3.out ww hS))) (hK _ _ ⟨Touch.refl _ _, rfl⟩)⟩),
        (fun Q aq ww own hS hBg fr kn => .inl ⟨trivial, fun K hK => wp_value (exec_cvW (m := (n3 : Int)) rfl kn.1 (by omega) (by omega)) (hK _ _ ⟨Touch.refl _ _, rfl⟩)⟩),
        (fun Q aq ww own hS hBg fr kn => .inl ⟨trivial, fun K hK => stepc enterW_It rfl (args1 kn.1) (HI3.out ww hS) (fun w' hb => hK _ _ ⟨touch_below hb, rfl⟩)⟩),
        (fun Q aq ww own hS hBg fr kn => .inl ⟨trivial, fun K hK => wp_value (exec_catS rfl kn.1 kn.2.1 (by (try simp only [ByteArray.size_append]); have := HZ.out; omega)) (hK _ _ ⟨Touch.refl _ _, rfl⟩)⟩),
        (fun Q aq ww own hS hBg fr kn => .inl ⟨trivial, fun K hK => wp_value (exec_assign rfl kn.1) (hK _ _ ⟨Touch.refl _ _, rfl⟩)⟩),
        (fun Q aq ww own hS hBg fr kn => .inl ⟨trivial, fun K hK => wp_value (exec_assign (v := .int .i64 0) rfl rfl) (hK _ _ ⟨Touch.refl _ _, rfl⟩)⟩),
        trivial⟩ ?_
  intro vs own u6 hB6 hsz6 kn inj
  have e26 : vs 2 = .string ((((((d0 ++ dotZ) ++ d1) ++ dotZ) ++ d2) ++ dotZ) ++ d3) := kn.1
  have e27 : vs 3 = .int .i64 0 := kn.2.1
  clear kn inj hsz6
  simp only [putAll, Act.put, List.setIfInBounds_toArray, List.set_cons_zero, List.set_cons_succ, e26, e27]
  clear e26 e27
  go_wp2_with fail
  exact bodyPost_ret (results_two rfl (by rfl) (by rfl)) rfl ⟨by rw [HF.out]; rfl, hB3.trans (hB6.mono hB3.size)⟩
end Go.Proofs.YtdlepeogmjmleaaDoor
