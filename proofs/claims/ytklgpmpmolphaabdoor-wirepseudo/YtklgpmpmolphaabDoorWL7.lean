/-
  Own text. The program's Pseudo, and WirePseudo.
-/
import Derived.Test.YtklgpmpmolphaabDoorJ4
import Derived.Test.YtklgpmpmolphaabDoorWD5
namespace Go.Proofs.YtklgpmpmolphaabDoor
open Go.RowKit Go.Proofs
set_option maxRecDepth 100000
theorem put_four {n : Nat} (hn : n < 256) : putT n 4 = ⟨#[0, 0, 0]⟩ ++ putT n 1 := by
  have h0 : putF n 4 0 = 0 := by unfold putF; simp; omega
  have h1 : putF n 4 1 = 0 := by unfold putF; simp; omega
  have h2 : putF n 4 2 = 0 := by unfold putF; simp; omega
  have h3 : putF n 4 3 = putF n 1 0 := by unfold putF; simp
  apply same_ext
  · rw [ByteArray.size_append]
    exact mkS_size _ _
  · intro j hj
    have hs : (putT n 4).size = 4 := mkS_size _ _
    rw [hs] at hj
    have ht : txt (putT n 4) j = putF n 4 j := txt_mkS (putF_b n 4 j) hj
    have ht1 : txt (putT n 1) 0 = putF n 1 0 := txt_mkS (putF_b n 1 0) (by decide)
    rw [ht, txt_append]
    match j, hj with
    | 0, _ => rw [h0]; rfl
    | 1, _ => rw [h1]; rfl
    | 2, _ => rw [h2]; rfl
    | 3, _ => rw [h3, ← ht1]; rfl
theorem put_two {n : Nat} (hn : n < 256) : putT n 2 = ⟨#[0]⟩ ++ putT n 1 := by
  have h0 : putF n 2 0 = 0 := by unfold putF; simp; omega
  have h3 : putF n 2 1 = putF n 1 0 := by unfold putF; simp
  apply same_ext
  · rw [ByteArray.size_append]
    exact mkS_size _ _
  · intro j hj
    have hs : (putT n 2).size = 2 := mkS_size _ _
    rw [hs] at hj
    have ht : txt (putT n 2) j = putF n 2 j := txt_mkS (putF_b n 2 j) hj
    have ht1 : txt (putT n 1) 0 = putF n 1 0 := txt_mkS (putF_b n 1 0) (by decide)
    rw [ht, txt_append]
    match j, hj with
    | 0, _ => rw [h0]; rfl
    | 1, _ => rw [h3, ← ht1]; rfl
theorem enterW_ByC (args : Array Value) (w : World) : (callFunc 14 args).run Tryd.prog w = .ok (.enter 14 args) w := by kernel_rfl
theorem enterW_PuC (args : Array Value) (w : World) : (callFunc 13 args).run Tryd.prog w = .ok (.enter 13 args) w := by kernel_rfl
theorem enterW_PsC (args : Array Value) (w : World) : (callFunc 5 args).run Tryd.prog w = .ok (.enter 5 args) w := by kernel_rfl
theorem enterW_PsD (args : Array Value) (w : World) : (callFunc 6 args).run Tryd.prog w = .ok (.enter 6 args) w := by kernel_rfl
set_option maxHeartbeats 16000000 in
theorem Pseudo_no (v1 : Bool) (b1 : Nat → Int) (v2 : Bool) (b2 : Nat → Int) (pr sz : Int) (w : World) (h : ¬ pseOk v1 b1 v2 b2 pr sz) : Calls Tryd.prog 5 #[.agg (SC 17 (adV v1 b1)), .agg (SC 17 (adV v2 b2)), .int .i64 pr, .int .i64 sz] w fun e w' => e = .returned (.string ByteArray.empty) ∧ Below w.heap.size w w' := by
  unfold pseOk at h
  have HR1 := Hid.mk (Valid_run v1 b1)
  have HR2 := Hid.mk (Valid_run v2 b2)
  generalize validF v1 b1 = r1 at *
  generalize validF v2 b2 = r2 at *
  have HH := Hid.mk h
  clear h
  go_enter Tryd.func5, Tryd.ntmps5
  go_wp2_with (refine wl_boxWW rfl rfl rfl rfl isAddr isAddr (by rfl) (fun u => by rfl) ?_; intro g1 g2 u2 hg1 hg2 q1a q2 hB2; refine Hid.out ?_)
  refine Hid.mk ?_
  go_wp2_with (refine wl_value rfl (look_st rfl isAddr q1a (by rfl)) ?_)
  refine (HR1.out u2).mono ?_
  rintro e u3 ⟨rfl, hB3⟩
  have q2b := SAt.kept q2 hB3
  have hBc : Below w.heap.size w u3 := hB2.trans (hB3.mono hB2.size)
  cases r1
  · go_wp2_with fail
    go_ret
    exact ⟨rfl, hBc⟩
  · go_wp2_with (refine wl_value rfl (look_st rfl isAddr q2b (by rfl)) ?_)
    refine (HR2.out u3).mono ?_
    rintro e u4 ⟨rfl, hB4⟩
    have c1 := ad_v (SAt.kept (SAt.kept q1a hB3) hB4)
    have c2 := ad_v (SAt.kept q2b hB4)
    have hBd : Below w.heap.size w u4 := hBc.trans (hB4.mono hBc.size)
    clear HR1 HR2 q2 q1a q2b hB2 hB3 hB4
    cases r2
    · go_wp2_with fail
      go_ret
      exact ⟨rfl, hBd⟩
    · by_cases hv : v1 = v2
      · subst hv
        have h' : pr < 0 ∨ 255 < pr ∨ sz < 0 ∨ 65535 < sz := by
          have hh := HH.out
          simp at hh
          omega
        by_cases e1 : pr < 0
        · cases v1 <;> (go_wp2_with fail; go_ret; exact ⟨rfl, hBd⟩)
        · by_cases e2 : 255 < pr
          · cases v1 <;> (go_wp2_with fail; go_ret; exact ⟨rfl, hBd⟩)
          · by_cases e3 : sz < 0
            · cases v1 <;> (go_wp2_with fail; go_ret; exact ⟨rfl, hBd⟩)
            · have e4 : 65535 < sz := by omega
              cases v1 <;> (go_wp2_with fail; go_ret; exact ⟨rfl, hBd⟩)
      · cases v1 <;> cases v2 <;> first | exact absurd rfl hv | (go_wp2_with fail; go_ret; exact ⟨rfl, hBd⟩)
set_option maxHeartbeats 16000000 in
theorem Pseudo_run (v : Bool) (b1 : Nat → Int) (b2 : Nat → Int) (pr sz : Nat) (w : World) (hb1 : Byts 16 b1) (hb2 : Byts 16 b2) (h1 : validF v b1 = true) (h2 : validF v b2 = true) (hpr : pr ≤ 255) (hsz : sz ≤ 65535) : Calls Tryd.prog 5 #[.agg (SC 17 (adV v b1)), .agg (SC 17 (adV v b2)), .int .i64 (pr : Int), .int .i64 (sz : Int)] w fun e w' => e = .returned (.string (pseT v b1 v b2 pr sz)) ∧ Below w.heap.size w w' := by
  have HR1 : Hid (∀ ww, Calls Tryd.prog 12 #[.agg (SC 17 (adV v b1))] ww fun e w' => e = .returned (.bool true) ∧ Below ww.heap.size ww w') := Hid.mk (fun ww => by rw [← h1]; exact Valid_run v b1 ww)
  have HR2 : Hid (∀ ww, Calls Tryd.prog 12 #[.agg (SC 17 (adV v b2))] ww fun e w' => e = .returned (.bool true) ∧ Below ww.heap.size ww w') := Hid.mk (fun ww => by rw [← h2]; exact Valid_run v b2 ww)
  have HB1 : Hid (∀ ww, Calls Tryd.prog 14 #[.agg (SC 17 (adV v b1))] ww fun e w' => e = .returned (.string (bytT v b1)) ∧ Below ww.heap.size ww w') := Hid.mk (fun ww => Bytes_run v b1 ww hb1)
  have HB2 : Hid (∀ ww, Calls Tryd.prog 14 #[.agg (SC 17 (adV v b2))] ww fun e w' => e = .returned (.string (bytT v b2)) ∧ Below ww.heap.size ww w') := Hid.mk (fun ww => Bytes_run v b2 ww hb2)
  have HK : Hid (∀ ww, Calls Tryd.prog 13 #[.int .u64 (pr : Int), .int .i64 1] ww fun e w' => e = .returned (.string (putT pr 1)) ∧ Below ww.heap.size ww w') := Hid.mk (fun ww => Put_run pr 1 ww (by decide) (by decide))
  have s1 := bytT_size v b1
  have s2 := bytT_size v b2
  have sk : (putT pr 1).size = 1 := mkS_size _ _
  have HT4 : Hid (pseT true b1 true b2 pr sz = bytT true b1 ++ bytT true b2 ++ putT sz 4 ++ ⟨#[0, 0, 0]⟩ ++ putT pr 1) := Hid.mk (by
    unfold pseT
    rw [if_pos rfl, put_four (n := pr) (by omega), ← ByteArray.append_assoc])
  have HT2 : Hid (pseT false b1 false b2 pr sz = bytT false b1 ++ bytT false b2 ++ ⟨#[0]⟩ ++ putT pr 1 ++ putT sz 2) := Hid.mk (by
    unfold pseT
    rw [if_neg (by decide), put_two (n := pr) (by omega), ← ByteArray.append_assoc])
  have hz4 : (putT sz 4).size = 4 := mkS_size _ _
  have hz2 : (putT sz 2).size = 2 := mkS_size _ _
  have i1 : ¬ (pr : Int) < 0 := by omega
  have i2 : ¬ (255 : Int) < (pr : Int) := by omega
  have i3 : ¬ (sz : Int) < 0 := by omega
  have i4 : ¬ (65535 : Int) < (sz : Int) := by omega
  go_enter Tryd.func5, Tryd.ntmps5
  go_wp2_with (refine wl_boxWW rfl rfl rfl rfl isAddr isAddr (by rfl) (fun u => by rfl) ?_; intro g1 g2 u2 hg1 hg2 q1a q2a hB2; refine Hid.out ?_)
  refine Hid.mk ?_
  go_wp2_with (refine wl_value rfl (look_st rfl isAddr q1a (by rfl)) ?_)
  refine (HR1.out u2).mono ?_
  rintro e u3 ⟨rfl, hB3⟩
  have q1b := SAt.kept q1a hB3
  have q2b := SAt.kept q2a hB3
  have hBc : Below w.heap.size w u3 := hB2.trans (hB3.mono hB2.size)
  go_wp2_with (refine wl_value rfl (look_st rfl isAddr q2b (by rfl)) ?_)
  refine (HR2.out u3).mono ?_
  rintro e u4 ⟨rfl, hB4⟩
  have q1 := SAt.kept q1b hB4
  have q2 := SAt.kept q2b hB4
  have c1 := ad_v q1
  have c2 := ad_v q2
  have hBd : Below w.heap.size w u4 := hBc.trans (hB4.mono hBc.size)
  clear HR1 HR2 q1a q1b q2a q2b hB2 hB3 hB4 hBc
  cases v
  · have HC0 : Hid ((bytT false b1).size + (bytT false b2).size ≤ 9223372036854775807) := Hid.mk (by omega)
    obtain ⟨t1, ht1⟩ : ∃ t1, bytT false b1 = t1 := ⟨_, rfl⟩
    obtain ⟨t2, ht2⟩ : ∃ t2, bytT false b2 = t2 := ⟨_, rfl⟩
    obtain ⟨k1, hk1⟩ : ∃ k1, putT pr 1 = k1 := ⟨_, rfl⟩
    rw [ht1] at HC0 HB1 s1
    rw [ht2] at HC0 HB2 s2
    rw [hk1] at HK sk
    rw [ht1, ht2, hk1] at HT2
    clear ht1 ht2 hk1 HT4
    go_upto_region 3 with (first | (refine wl_value rfl (exec_fadW0 rfl (by rfl)) ?_) | (refine wl_value rfl (exec_ld rfl (by rfl) (ldWb c1)) ?_) | (refine wl_value rfl (exec_ld rfl (by rfl) (ldWb c2)) ?_))
    refine wp_region3 (Below u4.heap.size u4) u4.heap.size
        ([] : List (Nat × Cont))
        [kv (.agg (SC 17 (adV false b1))), kv (.string t1), kv (.agg (SC 17 (adV false b2))), kv (.string t2), kv (.string (t1 ++ t2)), kv (.int .i64 (pr : Int)), kv (.int .u64 (pr : Int)), kv (.string k1), kv (.string (t1 ++ t2)), kv (.string k1)]
        [.none, .none, .none, .none, .none, .none, .none, .none, .none, .none]
        [some 42, some 43, some 44, some 45, some 46, some 47, some 48, some 49, some 9, some 10]
        [(4, .pointer (some ⟨g1, 0, none⟩)), (5, .pointer (some ⟨g2, 0, none⟩)), (2, .int .i64 (pr : Int))]
        [[], [.slot 0], [], [.slot 2], [.slot 1, .slot 3], [], [.slot 5], [.slot 6], [.slot 4], [.slot 7]]
        [.slot 8, .slot 9] [42, 43, 44, 45, 46, 47, 48, 49, 9, 10]
        rfl (by kernel_rfl) ⟨rfl, rfl, rfl, trivial⟩ ((Below.refl _ u4).drew) (Nat.le_refl _) trivial trivial (below_GcW (Nat.le_refl _))
        ⟨
          (fun Q aq ww own hS hBg fr kn => .inl ⟨trivial, fun K hK => wp_value (look_st rfl isAddr (SAt.kept q1 hS) fr.1) (hK _ _ ⟨Touch.refl _ _, rfl⟩)⟩),
          (fun Q aq ww own hS hBg fr kn => .inl ⟨trivial, fun K hK => stepc enterW_ByC rfl (args1 kn.1) (HB1.out ww) (fun w' hb => hK _ _ ⟨touch_below hb, rfl⟩)⟩),
          (fun Q aq ww own hS hBg fr kn => .inl ⟨trivial, fun K hK => wp_value (look_st rfl isAddr (SAt.kept q2 hS) fr.2.1) (hK _ _ ⟨Touch.refl _ _, rfl⟩)⟩),
          (fun Q aq ww own hS hBg fr kn => .inl ⟨trivial, fun K hK => stepc enterW_ByC rfl (args1 kn.1) (HB2.out ww) (fun w' hb => hK _ _ ⟨touch_below hb, rfl⟩)⟩),
          (fun Q aq ww own hS hBg fr kn => .inl ⟨trivial, fun K hK => wp_value (exec_catS rfl kn.1 kn.2.1 HC0.out) (hK _ _ ⟨Touch.refl _ _, rfl⟩)⟩),
          (fun Q aq ww own hS hBg fr kn => .inl ⟨trivial, fun K hK => wp_value (exec_move rfl fr.2.2.1) (hK _ _ ⟨Touch.refl _ _, rfl⟩)⟩),
          (fun Q aq ww own hS hBg fr kn => .inl ⟨trivial, fun K hK => wp_value (exec_cvIU (m := pr) rfl kn.1 (by omega)) (hK _ _ ⟨Touch.refl _ _, rfl⟩)⟩),
          (fun Q aq ww own hS hBg fr kn => .inl ⟨trivial, fun K hK => stepc enterW_PuC rfl (args2 kn.1 rfl) (HK.out ww) (fun w' hb => hK _ _ ⟨touch_below hb, rfl⟩)⟩),
          (fun Q aq ww own hS hBg fr kn => .inl ⟨trivial, fun K hK => wp_value (exec_assign rfl kn.1) (hK _ _ ⟨Touch.refl _ _, rfl⟩)⟩),
          (fun Q aq ww own hS hBg fr kn => .inl ⟨trivial, fun K hK => wp_value (exec_assign rfl kn.1) (hK _ _ ⟨Touch.refl _ _, rfl⟩)⟩),
          trivial⟩ ?_
    intro vs own u6 hB6 hsz6 kn inj
    have e9 : vs 9 = .string (t1 ++ t2) := kn.1
    have e10 : vs 10 = .string k1 := kn.2.1
    clear kn inj hsz6
    simp only [putAll, Act.put, List.setIfInBounds_toArray, List.set_cons_zero, List.set_cons_succ, e9, e10]
    clear e9 e10
    have hBe := hBd.trans (hB6.mono hBd.size)
    have c3 := ad_v (SAt.kept q1 hB6)
    obtain ⟨z2, hz2e⟩ : ∃ z2, putT sz 2 = z2 := ⟨_, rfl⟩
    rw [hz2e] at HT2 hz2
    have HP2 : Hid (∀ ww, Calls Tryd.prog 13 #[.int .u64 (sz : Int), .int .i64 2] ww fun e w' => e = .returned (.string z2) ∧ Below ww.heap.size ww w') := Hid.mk (fun ww => by rw [← hz2e]; exact Put_run sz 2 ww (by decide) (by decide))
    clear hz2e
    have hl3 : (⟨#[0]⟩ : ByteArray).size = 1 := rfl
    have C1 : Hid ((t1 ++ t2).size + (⟨#[0]⟩ : ByteArray).size ≤ 9223372036854775807) := Hid.mk (by rw [ByteArray.size_append, hl3]; omega)
    have C2 : Hid ((t1 ++ t2 ++ ⟨#[0]⟩).size + k1.size ≤ 9223372036854775807) := Hid.mk (by rw [ByteArray.size_append, ByteArray.size_append, hl3]; omega)
    have C3 : Hid ((t1 ++ t2 ++ ⟨#[0]⟩ ++ k1).size + z2.size ≤ 9223372036854775807) := Hid.mk (by rw [ByteArray.size_append, ByteArray.size_append, ByteArray.size_append, hl3]; omega)
    go_wp2_with (first | (refine wl_value rfl (exec_fadW0 rfl (by rfl)) ?_) | (refine wl_value rfl (exec_ld rfl (by rfl) (ldWb c3)) ?_) | (refine wl_value rfl (exec_cvIU (m := sz) rfl (by rfl) (by omega)) ?_) | (refine wl_value rfl (exec_catS (t := ⟨#[0]⟩) rfl (by rfl) (by rfl) C1.out) ?_) | (refine wl_value rfl (exec_catS rfl (by rfl) (by rfl) C2.out) ?_) | (go_at_call 13; refine (HP2.out _).mono ?_; rintro e u7 ⟨rfl, hB7⟩; refine Hid.out ?_))
    refine Hid.mk ?_
    go_wp2_with (first | (refine wl_value rfl (exec_catS rfl (by rfl) (by rfl) C3.out) ?_))
    go_ret
    exact ⟨by rw [HT2.out]; rfl, hBe.trans (hB7.mono hBe.size)⟩
  · have HC0 : Hid ((bytT true b1).size + (bytT true b2).size ≤ 9223372036854775807) := Hid.mk (by omega)
    obtain ⟨t1, ht1⟩ : ∃ t1, bytT true b1 = t1 := ⟨_, rfl⟩
    obtain ⟨t2, ht2⟩ : ∃ t2, bytT true b2 = t2 := ⟨_, rfl⟩
    obtain ⟨k1, hk1⟩ : ∃ k1, putT pr 1 = k1 := ⟨_, rfl⟩
    rw [ht1] at HC0 HB1 s1
    rw [ht2] at HC0 HB2 s2
    rw [hk1] at HK sk
    rw [ht1, ht2, hk1] at HT4
    clear ht1 ht2 hk1 HT2
    go_upto_region 3 with (first | (refine wl_value rfl (exec_fadW0 rfl (by rfl)) ?_) | (refine wl_value rfl (exec_ld rfl (by rfl) (ldWb c1)) ?_) | (refine wl_value rfl (exec_ld rfl (by rfl) (ldWb c2)) ?_))
    refine wp_region3 (Below u4.heap.size u4) u4.heap.size
        ([] : List (Nat × Cont))
        [kv (.agg (SC 17 (adV true b1))), kv (.string t1), kv (.agg (SC 17 (adV true b2))), kv (.string t2), kv (.string (t1 ++ t2)), kv (.int .i64 (pr : Int)), kv (.int .u64 (pr : Int)), kv (.string k1), kv (.string (t1 ++ t2)), kv (.string k1)]
        [.none, .none, .none, .none, .none, .none, .none, .none, .none, .none]
        [some 42, some 43, some 44, some 45, some 46, some 47, some 48, some 49, some 9, some 10]
        [(4, .pointer (some ⟨g1, 0, none⟩)), (5, .pointer (some ⟨g2, 0, none⟩)), (2, .int .i64 (pr : Int))]
        [[], [.slot 0], [], [.slot 2], [.slot 1, .slot 3], [], [.slot 5], [.slot 6], [.slot 4], [.slot 7]]
        [.slot 8, .slot 9] [42, 43, 44, 45, 46, 47, 48, 49, 9, 10]
        rfl (by kernel_rfl) ⟨rfl, rfl, rfl, trivial⟩ ((Below.refl _ u4).drew) (Nat.le_refl _) trivial trivial (below_GcW (Nat.le_refl _))
        ⟨
          (fun Q aq ww own hS hBg fr kn => .inl ⟨trivial, fun K hK => wp_value (look_st rfl isAddr (SAt.kept q1 hS) fr.1) (hK _ _ ⟨Touch.refl _ _, rfl⟩)⟩),
          (fun Q aq ww own hS hBg fr kn => .inl ⟨trivial, fun K hK => stepc enterW_ByC rfl (args1 kn.1) (HB1.out ww) (fun w' hb => hK _ _ ⟨touch_below hb, rfl⟩)⟩),
          (fun Q aq ww own hS hBg fr kn => .inl ⟨trivial, fun K hK => wp_value (look_st rfl isAddr (SAt.kept q2 hS) fr.2.1) (hK _ _ ⟨Touch.refl _ _, rfl⟩)⟩),
          (fun Q aq ww own hS hBg fr kn => .inl ⟨trivial, fun K hK => stepc enterW_ByC rfl (args1 kn.1) (HB2.out ww) (fun w' hb => hK _ _ ⟨touch_below hb, rfl⟩)⟩),
          (fun Q aq ww own hS hBg fr kn => .inl ⟨trivial, fun K hK => wp_value (exec_catS rfl kn.1 kn.2.1 HC0.out) (hK _ _ ⟨Touch.refl _ _, rfl⟩)⟩),
          (fun Q aq ww own hS hBg fr kn => .inl ⟨trivial, fun K hK => wp_value (exec_move rfl fr.2.2.1) (hK _ _ ⟨Touch.refl _ _, rfl⟩)⟩),
          (fun Q aq ww own hS hBg fr kn => .inl ⟨trivial, fun K hK => wp_value (exec_cvIU (m := pr) rfl kn.1 (by omega)) (hK _ _ ⟨Touch.refl _ _, rfl⟩)⟩),
          (fun Q aq ww own hS hBg fr kn => .inl ⟨trivial, fun K hK => stepc enterW_PuC rfl (args2 kn.1 rfl) (HK.out ww) (fun w' hb => hK _ _ ⟨touch_below hb, rfl⟩)⟩),
          (fun Q aq ww own hS hBg fr kn => .inl ⟨trivial, fun K hK => wp_value (exec_assign rfl kn.1) (hK _ _ ⟨Touch.refl _ _, rfl⟩)⟩),
          (fun Q aq ww own hS hBg fr kn => .inl ⟨trivial, fun K hK => wp_value (exec_assign rfl kn.1) (hK _ _ ⟨Touch.refl _ _, rfl⟩)⟩),
          trivial⟩ ?_
    intro vs own u6 hB6 hsz6 kn inj
    have e9 : vs 9 = .string (t1 ++ t2) := kn.1
    have e10 : vs 10 = .string k1 := kn.2.1
    clear kn inj hsz6
    simp only [putAll, Act.put, List.setIfInBounds_toArray, List.set_cons_zero, List.set_cons_succ, e9, e10]
    clear e9 e10
    have hBe := hBd.trans (hB6.mono hBd.size)
    have c3 := ad_v (SAt.kept q1 hB6)
    obtain ⟨z4, hz4e⟩ : ∃ z4, putT sz 4 = z4 := ⟨_, rfl⟩
    rw [hz4e] at HT4 hz4
    have HP4 : Hid (∀ ww, Calls Tryd.prog 13 #[.int .u64 (sz : Int), .int .i64 4] ww fun e w' => e = .returned (.string z4) ∧ Below ww.heap.size ww w') := Hid.mk (fun ww => by rw [← hz4e]; exact Put_run sz 4 ww (by decide) (by decide))
    clear hz4e
    have hl3 : (⟨#[0, 0, 0]⟩ : ByteArray).size = 3 := rfl
    have C1 : Hid ((t1 ++ t2).size + z4.size ≤ 9223372036854775807) := Hid.mk (by rw [ByteArray.size_append]; omega)
    have C2 : Hid ((t1 ++ t2 ++ z4).size + (⟨#[0, 0, 0]⟩ : ByteArray).size ≤ 9223372036854775807) := Hid.mk (by rw [ByteArray.size_append, ByteArray.size_append, hl3]; omega)
    have C3 : Hid ((t1 ++ t2 ++ z4 ++ ⟨#[0, 0, 0]⟩).size + k1.size ≤ 9223372036854775807) := Hid.mk (by rw [ByteArray.size_append, ByteArray.size_append, ByteArray.size_append, hl3]; omega)
    go_wp2_with (first | (refine wl_value rfl (exec_fadW0 rfl (by rfl)) ?_) | (refine wl_value rfl (exec_ld rfl (by rfl) (ldWb c3)) ?_) | (refine wl_value rfl (exec_cvIU (m := sz) rfl (by rfl) (by omega)) ?_) | (go_at_call 13; refine (HP4.out _).mono ?_; rintro e u7 ⟨rfl, hB7⟩; refine Hid.out ?_))
    refine Hid.mk ?_
    go_wp2_with (first | (refine wl_value rfl (exec_catS rfl (by rfl) (by rfl) C1.out) ?_) | (refine wl_value rfl (exec_catS (t := ⟨#[0, 0, 0]⟩) rfl (by rfl) (by rfl) C2.out) ?_) | (refine wl_value rfl (exec_catS rfl (by rfl) (by rfl) C3.out) ?_))
    go_ret
    exact ⟨by rw [HT4.out]; rfl, hBe.trans (hB7.mono hBe.size)⟩
theorem pseudo_all (v : Bool) (b : Nat → Int) (v2 : Bool) (b2 : Nat → Int) (pr sz : Int) (hb : Byts 16 b) (hb2 : Byts 16 b2) : ∃ T, (∀ ww, Calls Tryd.prog 5 #[.agg (SC 17 (adV v b)), .agg (SC 17 (adV v2 b2)), .int .i64 pr, .int .i64 sz] ww fun e w' => e = .returned (.string T) ∧ Below ww.heap.size ww w') ∧ ∀ ww, Calls Tryd.prog 6 #[.agg (SC 17 (adV v b)), .agg (SC 17 (adV v2 b2)), .int .i64 pr, .int .i64 sz] ww fun e w' => e = .returned (.string T) ∧ Below ww.heap.size ww w' := by
  by_cases h : pseOk v b v2 b2 pr sz
  · have h0 := h
    obtain ⟨h1, h2, h3, h4, h5, h6, h7⟩ := h
    subst h3
    obtain ⟨p, rfl⟩ : ∃ p : Nat, pr = (p : Int) := ⟨pr.toNat, by omega⟩
    obtain ⟨z, rfl⟩ : ∃ z : Nat, sz = (z : Int) := ⟨sz.toNat, by omega⟩
    exact ⟨_, fun ww => Pseudo_run v b b2 p z ww hb hb2 h1 h2 (by omega) (by omega), fun ww => rPseudo_run v b v b2 p z ww hb hb2 h0⟩
  · exact ⟨_, fun ww => Pseudo_no v b v2 b2 pr sz ww h, fun ww => rPseudo_no v b v2 b2 pr sz ww h⟩
theorem isEn : IsSt 26 34 := ⟨_, Tryd.underlying26, rfl, by kernel_rfl⟩
section
variable {a : Act} {o : Oper} {w : World} {x y : Operand} {t : TypeId}
theorem exec_fen0 (ho : o.op = .fieldAddr 26 x 0) {g : Nat} (hx : a.eval x = .pointer (some ⟨g, 0, none⟩)) : (execOp a.eval o).run Tryd.prog w = .ok (.value (.pointer (some ⟨g, 0, none⟩))) w := by
  have h : (Instr.fieldAt 26 (.pointer (some ⟨g, 0, none⟩)) 0).run Tryd.prog w = .ok (.pointer (some ⟨g, 0, none⟩)) w := by simp [go_sem]
  unfold execOp
  simp only [ho, hx, Sem.run_bind, h, Result.andThen_ok, Sem.run_pure]
theorem exec_fen1 (ho : o.op = .fieldAddr 26 x 1) {g : Nat} (hx : a.eval x = .pointer (some ⟨g, 0, none⟩)) : (execOp a.eval o).run Tryd.prog w = .ok (.value (.pointer (some ⟨g, 17, none⟩))) w := by
  have h : (Instr.fieldAt 26 (.pointer (some ⟨g, 0, none⟩)) 1).run Tryd.prog w = .ok (.pointer (some ⟨g, 17, none⟩)) w := by simp [go_sem]
  unfold execOp
  simp only [ho, hx, Sem.run_bind, h, Result.andThen_ok, Sem.run_pure]
theorem exec_ldE (ho : o.op = .load 24 x) {g k : Nat} {v : Bool} {b : Nat → Int} (hx : a.eval x = .pointer (some ⟨g, k, none⟩)) (hc : ∀ j, j < 17 → w.cell? ⟨g, k + j, none⟩ = some (adV v b j)) : (execOp a.eval o).run Tryd.prog w = .ok (.value (.agg (SC 17 (adV v b)))) w := by
  refine exec_ld ho hx ?_
  have h := run_loadAt_addr w ⟨g, k, none⟩ 24 (SC 17 (adV v b)).toList _ (fun j u hj => by
    have hj2 : j < 17 := by
      have := (List.getElem?_eq_some_iff.1 hj).1
      rw [Array.length_toList, SC_size] at this
      exact this
    rw [Addr.add_lit, hc j hj2]
    rw [Array.getElem?_toList, SC_get 17 _ j hj2] at hj
    exact hj) Tryd.underlying24 rfl (by rw [Array.length_toList, SC_size]; kernel_rfl)
  rw [Array.toArray_toList] at h
  exact h
end
set_option maxHeartbeats 16000000 in
theorem pseudo_walk (v : Bool) (b : Nat → Int) (v2 : Bool) (b2 : Nat → Int) (pr sz : Int) (w : World) (hb : Byts 16 b) (hb2 : Byts 16 b2) (_wp : (Lit.int .i64 pr).wf = true) (_wz : (Lit.int .i64 sz).wf = true) (hE : Env w) : Calls Tryd.prog 3 #[.agg (SC 34 (enV v b v2 b2)), .int .i64 pr, .int .i64 sz] w fun e w' => e = .returned (.bool true) ∧ Below w.heap.size w w' := by
  obtain ⟨T, h1, h2⟩ := pseudo_all v b v2 b2 pr sz hb hb2
  have H1 := Hid.mk h1
  have H2 := Hid.mk h2
  clear h1 h2
  go_enter Tryd.func3, Tryd.ntmps3
  go_wp2_with (refine wl_boxO rfl rfl isEn (by rfl) ?_; intro g u1 hg g1 hB1; refine Hid.out ?_)
  refine Hid.mk ?_
  have HE1 := Hid.mk (hE.kept hB1)
  go_wp2_with (go_at_call 4; refine (awake_run _ HE1.out).mono ?_; rintro e u2 ⟨rfl, hB2⟩; refine Hid.out ?_)
  refine Hid.mk ?_
  have g2 := SAt.kept g1 hB2
  have hBa := hB1.trans (hB2.mono hB1.size)
  clear g1 hB1 hB2 HE1
  have HC0 : Hid (∀ ww, SAt ww g 26 34 (enV v b v2 b2) → ∀ j, j < 17 → ww.cell? ⟨g, 0 + j, none⟩ = some (adV v b j)) := Hid.mk (fun ww hh j hj => by
    rw [Nat.zero_add, SAt.at hh j (by omega)]
    unfold enV
    rw [if_pos hj])
  have HC1 : Hid (∀ ww, SAt ww g 26 34 (enV v b v2 b2) → ∀ j, j < 17 → ww.cell? ⟨g, 17 + j, none⟩ = some (adV v2 b2 j)) := Hid.mk (fun ww hh j hj => by
    rw [SAt.at hh (17 + j) (by omega)]
    unfold enV
    rw [if_neg (by omega), show 17 + j - 17 = j by omega])
  go_wp2_with (first | (refine wl_value rfl (exec_fen0 rfl (by rfl)) ?_) | (refine wl_value rfl (exec_ldE rfl (by rfl) (HC0.out _ g2)) ?_) | (refine wl_alO rfl rfl zeroAddr ?_; intro g8 u3 hg8 q8 hB3; refine Hid.out ?_))
  refine Hid.mk ?_
  have g3 := SAt.kept g2 hB3
  have hBb := hBa.trans (hB3.mono hBa.size)
  have h8 : g ≠ g8 := by have := SAt.lt g2; omega
  have hg8w : w.heap.size ≤ g8 := by have := hBa.size; omega
  go_wp2_with (refine st_stO rfl rfl isAddr (adV_one _ _) q8 (by rfl) (by rfl) ?_; intro u4 r8a o8; refine Hid.out ?_)
  refine Hid.mk ?_
  have g4 := g3.only o8 h8
  have hBc := hBb.trans (o8.below hg8w)
  clear g2 g3 q8 o8 hBa hBb hB3 hg8
  go_wp2_with (first | (refine wl_value rfl (exec_fen1 rfl (by rfl)) ?_) | (refine wl_value rfl (exec_ldE rfl (by rfl) (HC1.out _ g4)) ?_) | (refine wl_alO rfl rfl zeroAddr ?_; intro g9 u5 hg9 q9 hB5; refine Hid.out ?_))
  refine Hid.mk ?_
  have r8b := SAt.kept r8a hB5
  have hBd := hBc.trans (hB5.mono hBc.size)
  have h89 : g8 ≠ g9 := by have := SAt.lt r8a; omega
  have hg9w : w.heap.size ≤ g9 := by have := hBc.size; omega
  go_wp2_with (refine st_stO rfl rfl isAddr (adV_one _ _) q9 (by rfl) (by rfl) ?_; intro wI r9 o9; refine Hid.out ?_)
  refine Hid.mk ?_
  have r8 := r8b.only o9 h89
  have hBe := hBd.trans (o9.below hg9w)
  clear r8a r8b q9 o9 hBc hBd hB5 hg9 g4 HC0 HC1
  go_upto_region 4 with fail
  refine wp_region3 (Below wI.heap.size wI) wI.heap.size
      ([] : List (Nat × Cont))
      [kv (.bool true), kv (.bool true), kv (.agg (SC 17 (adV v b))), kv (.agg (SC 17 (adV v2 b2))), kv (.int .i64 pr), kv (.int .i64 sz), kv (.string T), kv (.agg (SC 17 (adV v b))), kv (.agg (SC 17 (adV v2 b2))), kv (.int .i64 pr), kv (.int .i64 sz), kv (.string T), kv (.bool true), kv (.bool true), kv (.bool true)]
      [.none, .none, .none, .none, .none, .none, .none, .none, .none, .none, .none, .none, .none, .none, .none]
      [some 15, some 16, some 17, some 18, some 19, some 20, some 21, some 22, some 23, some 24, some 25, some 26, some 27, some 28, some 6]
      [(7, .bool true), (8, .pointer (some ⟨g8, 0, none⟩)), (9, .pointer (some ⟨g9, 0, none⟩)), (1, .int .i64 pr), (2, .int .i64 sz)]
      [[], [.slot 0], [.slot 1], [.slot 1], [.slot 1], [.slot 1], [.slot 1, .slot 2, .slot 3, .slot 4, .slot 5], [.slot 1], [.slot 1], [.slot 1], [.slot 1], [.slot 1, .slot 7, .slot 8, .slot 9, .slot 10], [.slot 1, .slot 6, .slot 11], [.slot 1, .slot 12], [.slot 13]]
      [.slot 14] [15, 16, 17, 18, 19, 20, 21, 22, 23, 24, 25, 26, 27, 28, 6]
      rfl (by kernel_rfl) ⟨rfl, rfl, rfl, rfl, rfl, trivial⟩ ((Below.refl _ wI).drew) (Nat.le_refl _) trivial trivial (below_GcW (Nat.le_refl _))
      ⟨
        (fun Q aq ww own hS hBg fr kn => .inl ⟨trivial, fun K hK => wp_value (exec_move rfl fr.1) (hK _ _ ⟨Touch.refl _ _, rfl⟩)⟩),
        (fun Q aq ww own hS hBg fr kn => .inl ⟨trivial, fun K hK => wp_value (exec_move rfl kn.1) (hK _ _ ⟨Touch.refl _ _, rfl⟩)⟩),
        (fun Q aq ww own hS hBg fr kn => .inl ⟨kn.1, fun K hK => wp_value (look_st rfl isAddr (SAt.kept r8 hS) fr.2.1) (hK _ _ ⟨Touch.refl _ _, rfl⟩)⟩),
        (fun Q aq ww own hS hBg fr kn => .inl ⟨kn.1, fun K hK => wp_value (look_st rfl isAddr (SAt.kept r9 hS) fr.2.2.1) (hK _ _ ⟨Touch.refl _ _, rfl⟩)⟩),
        (fun Q aq ww own hS hBg fr kn => .inl ⟨kn.1, fun K hK => wp_value (exec_move rfl fr.2.2.2.1) (hK _ _ ⟨Touch.refl _ _, rfl⟩)⟩),
        (fun Q aq ww own hS hBg fr kn => .inl ⟨kn.1, fun K hK => wp_value (exec_move rfl fr.2.2.2.2.1) (hK _ _ ⟨Touch.refl _ _, rfl⟩)⟩),
        (fun Q aq ww own hS hBg fr kn => .inl ⟨kn.1, fun K hK => stepc enterW_PsC rfl (args4 kn.2.1 kn.2.2.1 kn.2.2.2.1 kn.2.2.2.2.1) (H1.out ww) (fun w' hb => hK _ _ ⟨touch_below hb, rfl⟩)⟩),
        (fun Q aq ww own hS hBg fr kn => .inl ⟨kn.1, fun K hK => wp_value (look_st rfl isAddr (SAt.kept r8 hS) fr.2.1) (hK _ _ ⟨Touch.refl _ _, rfl⟩)⟩),
        (fun Q aq ww own hS hBg fr kn => .inl ⟨kn.1, fun K hK => wp_value (look_st rfl isAddr (SAt.kept r9 hS) fr.2.2.1) (hK _ _ ⟨Touch.refl _ _, rfl⟩)⟩),
        (fun Q aq ww own hS hBg fr kn => .inl ⟨kn.1, fun K hK => wp_value (exec_move rfl fr.2.2.2.1) (hK _ _ ⟨Touch.refl _ _, rfl⟩)⟩),
        (fun Q aq ww own hS hBg fr kn => .inl ⟨kn.1, fun K hK => wp_value (exec_move rfl fr.2.2.2.2.1) (hK _ _ ⟨Touch.refl _ _, rfl⟩)⟩),
        (fun Q aq ww own hS hBg fr kn => .inl ⟨kn.1, fun K hK => stepc enterW_PsD rfl (args4 kn.2.1 kn.2.2.1 kn.2.2.2.1 kn.2.2.2.2.1) (H2.out ww) (fun w' hb => hK _ _ ⟨touch_below hb, rfl⟩)⟩),
        (fun Q aq ww own hS hBg fr kn => .inl ⟨kn.1, fun K hK => wp_value (exec_eqS rfl kn.2.1 kn.2.2.1) (hK _ _ ⟨Touch.refl _ _, rfl⟩)⟩),
        (fun Q aq ww own hS hBg fr kn => .inl ⟨trivial, fun K hK => wp_value (exec_pick (v := .bool true) rfl kn.1 kn.2.1) (hK _ _ ⟨Touch.refl _ _, rfl⟩)⟩),
        (fun Q aq ww own hS hBg fr kn => .inl ⟨trivial, fun K hK => wp_value (exec_assign rfl kn.1) (hK _ _ ⟨Touch.refl _ _, rfl⟩)⟩),
        trivial⟩ ?_
  intro vs own u6 hB6 hsz6 kn inj
  have e6 : vs 6 = .bool true := kn.1
  clear kn inj hsz6
  simp only [putAll, Act.put, List.setIfInBounds_toArray, List.set_cons_zero, List.set_cons_succ, e6]
  clear e6
  go_wp2_with fail
  go_ret
  exact ⟨rfl, hBe.trans (hB6.mono hBe.size)⟩
end Go.Proofs.YtklgpmpmolphaabDoor
