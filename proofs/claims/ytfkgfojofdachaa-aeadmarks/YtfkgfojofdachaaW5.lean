/-
  Own text. The walk of the law AeadMarks.
-/
import Derived.Test.YtfkgfojofdachaaW4
namespace Go.Proofs.Ytfkgfojofdachaa
open Go.RowKit Go.Proofs
set_option maxRecDepth 100000
theorem enterOpen (args : Array Value) (w : World) : (callFunc 12 args).run Try.prog w = .ok (.enter 12 args) w := by kernel_rfl
set_option maxHeartbeats 8000000 in
theorem marks_walk (key nonce : Nat → Int) (text beside : ByteArray) (at_ to : Int) (w : World) (hk : Byts 32 key) (hn : Byts 12 nonce) (ht : text.size ≤ 140737488351232) (hbs : beside.size ≤ 281474976710656) (ha : -9223372036854775808 ≤ at_ ∧ at_ ≤ 9223372036854775807) (hto : 0 ≤ to ∧ to < 256) :
    Calls Try.prog 5 #[.agg (WA .u8 32 key), .agg (WA .u8 12 nonce), .string text, .string beside, .int .i64 at_, .int .u8 to] w fun e w' => e = .returned (.bool true) ∧ Below w.heap.size w w' := by
  have g0 : ArrAt ((w.alloc (.cells (WA .u8 32 key) 22)).alloc (.cells (WA .u8 12 nonce) 24)) w.heap.size .u8 22 32 key := heap_alloc2_old w _ _
  have g1 : ArrAt ((w.alloc (.cells (WA .u8 32 key) 22)).alloc (.cells (WA .u8 12 nonce) 24)) (w.heap.size + 1) .u8 24 12 nonce := heap_alloc2_new w _ _
  have hB : Below w.heap.size w ((w.alloc (.cells (WA .u8 32 key) 22)).alloc (.cells (WA .u8 12 nonce) 24)) := ((Below.refl _ w).alloc (by simp) _).alloc (by simp) _
  have hA := boxT_size key nonce text beside
  obtain ⟨p, hpd⟩ : ∃ p, p = pkN at_ 16 := ⟨_, rfl⟩
  have hp : p < 16 := by have := pkN_lt at_ 16 (by omega); omega
  have hS : ∀ w, Calls Try.prog 8 #[.agg (WA .u8 32 key), .agg (WA .u8 12 nonce), .string text, .string beside] w fun e w' => e = .returned (.string (boxT key nonce text beside)) ∧ Below w.heap.size w w' := fun w => Seal_run key nonce text beside w hk hn (by omega) hbs
  have hO : ∀ t : Int, 0 < t ∧ t < 256 → ∀ w, Calls Try.prog 12 #[.agg (WA .u8 32 key), .agg (WA .u8 12 nonce), .string (turnT (boxT key nonce text beside) (text.size + p) t), .string beside] w fun e w' => e = .returned (.tuple #[.string ByteArray.empty, .int .i64 13]) ∧ Below w.heap.size w w' := fun t ht2 w => by
    have h := Open_run key nonce (turnT (boxT key nonce text beside) (text.size + p) t) beside w hk hn (by rw [turnT_size]; omega) hbs
    rw [open_turned key nonce text beside p t hp ht2] at h
    exact h
  have HOS : Hid (∀ w, Calls Try.prog 12 #[.agg (WA .u8 32 key), .agg (WA .u8 12 nonce), .string ((boxT key nonce text beside).extract 0 p), .string beside] w fun e w' => e = .returned (.tuple #[.string ByteArray.empty, .int .i64 13]) ∧ Below w.heap.size w w') := Hid.mk (fun w => by
    have hz := take_size (boxT key nonce text beside) p (by omega)
    have h := Open_run key nonce ((boxT key nonce text beside).extract 0 p) beside w hk hn (by omega) hbs
    rw [open_short key nonce _ beside (by omega)] at h
    exact h)
  have hPK : ∀ w, Calls Try.prog 17 #[.int .i64 at_, .int .i64 16] w fun e w' => e = .returned (.int .i64 (p : Int)) ∧ Below w.heap.size w w' := fun w => by
    rw [hpd]
    exact pick_run at_ 16 w ha.1 ha.2 (by omega) (by omega)
  have HPK := Hid.mk hPK
  have HPA : Hid (p ≤ (boxT key nonce text beside).size) := Hid.mk (by omega)
  clear hpd hk hn
  unfold turnT at hO
  generalize boxT key nonce text beside = A at *
  have hAI : (A.size : Int) = (text.size : Int) + 16 := by omega
  go_enter Try.func5, Try.ntmps5
  go_wp2_with (first | (refine ld_arrG isArr32 g0 (by rfl) (by rfl) ?_) | (refine ld_arrG isArr12 g1 (by rfl) (by rfl) ?_))
  refine (hS _).mono ?_
  rintro e v1 ⟨rfl, hb⟩
  replace g0 := g0.kept hb
  replace g1 := g1.kept hb
  replace hB := hB.trans (hb.mono hB.size)

  clear hb
  obtain ⟨cp, v2, hcv, hR, hb⟩ := conv_str A v1
  have hz0 := g0.lt
  have hz1 := g1.lt
  have hz : w.heap.size ≤ v1.heap.size := hB.size
  replace g0 := g0.kept hb
  replace g1 := g1.kept hb
  replace hB := hB.trans (hb.mono hB.size)
  clear hb
  go_wp2_with fail
  clear hcv
  refine (hPK _).mono ?_
  rintro e v3 ⟨rfl, hb⟩
  replace g0 := g0.kept hb
  replace g1 := g1.kept hb
  replace hB := hB.trans (hb.mono hB.size)
  replace hR := hR.below hb hR.lt
  clear hb
  clear hPK
  by_cases hto0 : to = 0
  · subst hto0
    have hxx : bits .xor .u8 (txt A (text.size + p)) 1 = xorw (txt A (text.size + p)) 1 := by
      rw [u8_xor _ _ (txt_b _ _).1 (txt_b _ _).2 (by omega) (by omega)]
      rfl
    have HTB : Hid (0 ≤ xorw (txt A (text.size + p)) 1 ∧ xorw (txt A (text.size + p)) 1 < 256) := Hid.mk (xorw_b (txt_b _ _) (by omega))
    have hO2 : ∀ w, Calls Try.prog 12 #[.agg (WA .u8 32 key), .agg (WA .u8 12 nonce), .string (mkS A.size (upd (txt A) (text.size + p) (xorw (txt A (text.size + p)) 1))), .string beside] w fun e w' => e = .returned (.tuple #[.string ByteArray.empty, .int .i64 13]) ∧ Below w.heap.size w w' := hO 1 (by omega)
    clear hO hto
    generalize xorw (txt A (text.size + p)) 1 = y at *
    have hk : text.size + p < A.size := by omega
    have c0 := hR.cell (text.size + p) hk
    have f0 := hR.free (text.size + p) hk
    have hkI : (text.size : Int) + (p : Int) = ((text.size + p : Nat) : Int) := by omega
    have hyb : ∀ j, j < A.size → 0 ≤ upd (txt A) (text.size + p) y j ∧ upd (txt A) (text.size + p) y j < 256 := fun j _ => by
      unfold upd
      split
      · exact HTB.out
      · exact txt_b A j
    have hcv := str_back (text.size + 16) v1.heap.size cp _ A.size (upd (txt A) (text.size + p) y) (hR.set (text.size + p) y) hyb hA.symm
    replace g0 := g0.only (only_set (w := v3) (g := v1.heap.size) (i := text.size + p) (v := .int .u8 y)) (by omega)
    replace g1 := g1.only (only_set (w := v3) (g := v1.heap.size) (i := text.size + p) (v := .int .u8 y)) (by omega)
    replace hB := Below.setCell (p := ⟨v1.heap.size, text.size + p, none⟩) hB (by show w.heap.size ≤ v1.heap.size; omega) (.int .u8 y)
    clear hR hyb HTB
    generalize txt A (text.size + p) = z at *
    generalize mkS A.size (upd (txt A) (text.size + p) y) = bx at *
    generalize text.size + p = kk at *
    go_wp2_with (first | (refine ld_arrG isArr32 g0 (by rfl) (by rfl) ?_) | (refine ld_arrG isArr12 g1 (by rfl) (by rfl) ?_))
    clear c0 f0 hxx hcv
    refine (hO2 _).mono ?_
    rintro e v4 ⟨rfl, hb⟩
    replace g0 := g0.kept hb
    replace g1 := g1.kept hb
    replace hB := hB.trans (hb.mono hB.size)
  
    clear hb
    clear hO2
    go_wp2_with fail
    refine wp_gen (fun v => ArrAt v w.heap.size .u8 22 32 key ∧ ArrAt v (w.heap.size + 1) .u8 24 12 nonce ∧ Below w.heap.size w v) ⟨g0, g1, hB⟩ ?_
    clear g0 g1 hB
    rintro v0 ⟨g0, g1, hB⟩
    have HG0 : Hid (∀ u, Below v0.heap.size v0 u → ArrAt u w.heap.size .u8 22 32 key) := Hid.mk (fun u hu => g0.kept hu)
    have HG1 : Hid (∀ u, Below v0.heap.size v0 u → ArrAt u (w.heap.size + 1) .u8 24 12 nonce) := Hid.mk (fun u hu => g1.kept hu)
    refine wp_region3 (Below v0.heap.size v0) v0.heap.size
      ([] : List (Nat × Cont))
      [kv (.agg (WA .u8 32 key)), kv (.agg (WA .u8 12 nonce)), kv (.string A), kv (.int .i64 at_), kv (.int .i64 (p : Int)), kv (.string (A.extract 0 p)), kv (.string beside), kv (.tuple #[.string ByteArray.empty, .int .i64 13]), kv (.tuple #[.string ByteArray.empty, .int .i64 13]), kv (.string ByteArray.empty), kv (.int .i64 13), kv (.string ByteArray.empty), kv (.int .i64 13)]
      [.none, .none, .none, .none, .none, .none, .none, .none, .none, .none, .none, .none, .none]
      [some 59, some 60, some 61, some 62, some 63, some 64, some 65, some 66, some 58, some 67, some 68, some 18, some 19]
      [(6, .pointer (some ⟨w.heap.size, 0, none⟩)), (7, .pointer (some ⟨(w.heap.size + 1), 0, none⟩)), (13, .string A), (4, .int .i64 at_), (3, .string beside)]
      [[], [], [], [], [.slot 3], [.slot 2, .slot 4], [], [.slot 0, .slot 1, .slot 5, .slot 6], [.slot 7], [.slot 8], [.slot 8], [.slot 9], [.slot 10]]
      [.slot 11, .slot 12] [59, 60, 61, 62, 63, 64, 65, 66, 58, 67, 68, 18, 19]
      rfl (by kernel_rfl) ⟨rfl, rfl, rfl, rfl, rfl, trivial⟩ (Below.refl _ v0).drew (Nat.le_refl _) trivial trivial (below_G (Nat.le_refl _) trivial)
      ⟨
        -- 0
        (fun Q aq ww own hS hBg fr kn => .inl ⟨trivial, fun K hK => wp_value (look_arr rfl isArr32 (HG0.out ww hS) fr.1) (hK _ _ ⟨Touch.refl _ _, rfl⟩)⟩),
        -- 1
        (fun Q aq ww own hS hBg fr kn => .inl ⟨trivial, fun K hK => wp_value (look_arr rfl isArr12 (HG1.out ww hS) fr.2.1) (hK _ _ ⟨Touch.refl _ _, rfl⟩)⟩),
        -- 2
        (fun Q aq ww own hS hBg fr kn => .inl ⟨trivial, fun K hK => wp_value (exec_move rfl fr.2.2.1) (hK _ _ ⟨Touch.refl _ _, rfl⟩)⟩),
        -- 3
        (fun Q aq ww own hS hBg fr kn => .inl ⟨trivial, fun K hK => wp_value (exec_move rfl fr.2.2.2.1) (hK _ _ ⟨Touch.refl _ _, rfl⟩)⟩),
        -- 4
        (fun Q aq ww own hS hBg fr kn => .inl ⟨trivial, fun K hK => stepc enterPick rfl (args2 kn.1 rfl) (HPK.out ww) (fun w' hb => hK _ _ ⟨touch_below hb, rfl⟩)⟩),
        -- 5
        (fun Q aq ww own hS hBg fr kn => .inl ⟨trivial, fun K hK => wp_value (exec_slH rfl kn.1 kn.2.1 (strH A p ww HPA.out)) (hK _ _ ⟨Touch.refl _ _, rfl⟩)⟩),
        -- 6
        (fun Q aq ww own hS hBg fr kn => .inl ⟨trivial, fun K hK => wp_value (exec_move rfl fr.2.2.2.2.1) (hK _ _ ⟨Touch.refl _ _, rfl⟩)⟩),
        -- 7
        (fun Q aq ww own hS hBg fr kn => .inl ⟨trivial, fun K hK => stepc enterOpen rfl (args4 kn.1 kn.2.1 kn.2.2.1 kn.2.2.2.1) (HOS.out ww) (fun w' hb => hK _ _ ⟨touch_below hb, rfl⟩)⟩),
        -- 8
        (fun Q aq ww own hS hBg fr kn => .inl ⟨trivial, fun K hK => wp_value (exec_move rfl kn.1) (hK _ _ ⟨Touch.refl _ _, rfl⟩)⟩),
        -- 9
        (fun Q aq ww own hS hBg fr kn => .inl ⟨trivial, fun K hK => wp_value (exec_ext rfl kn.1 rfl) (hK _ _ ⟨Touch.refl _ _, rfl⟩)⟩),
        -- 10
        (fun Q aq ww own hS hBg fr kn => .inl ⟨trivial, fun K hK => wp_value (exec_ext rfl kn.1 rfl) (hK _ _ ⟨Touch.refl _ _, rfl⟩)⟩),
        -- 11
        (fun Q aq ww own hS hBg fr kn => .inl ⟨trivial, fun K hK => wp_value (exec_assign rfl kn.1) (hK _ _ ⟨Touch.refl _ _, rfl⟩)⟩),
        -- 12
        (fun Q aq ww own hS hBg fr kn => .inl ⟨trivial, fun K hK => wp_value (exec_assign rfl kn.1) (hK _ _ ⟨Touch.refl _ _, rfl⟩)⟩),
        trivial⟩ ?_
    intro vs own v5 hB5 hs5 kn inj
    clear inj hs5
    replace g0 := g0.kept hB5
    replace g1 := g1.kept hB5
    replace hB := hB.trans (hB5.mono hB.size)
    have e18 : vs 18 = .string ByteArray.empty := kn.1
    have e19 : vs 19 = .int .i64 13 := kn.2.1
    clear kn hB5 HG0 HG1
    simp only [putAll, Act.put, List.setIfInBounds_toArray, List.set_cons_zero, List.set_cons_succ, e18, e19]
    go_wp2_with (first | (refine ld_arrG isArr32 g0 (by rfl) (by rfl) ?_) | (refine ld_arrG isArr12 g1 (by rfl) (by rfl) ?_) | (refine wl_value (by rfl) (exec_eqS (s := ByteArray.empty) rfl (by rfl) (by rfl)) ?_) | (refine wl_value (by rfl) (exec_eqE (n := 13) rfl (by rfl) (by rfl)) ?_))
    refine (hS _).mono ?_
    rintro e v6 ⟨rfl, hb⟩
    replace g0 := g0.kept hb
    replace g1 := g1.kept hb
    replace hB := hB.trans (hb.mono hB.size)
  
    clear hb
    clear hS
    go_wp2_with (first | (refine wl_value (by rfl) (exec_eqS rfl (by rfl) (by rfl)) ?_))
    refine (awake_run _).mono ?_
    rintro e v8 ⟨rfl, hb⟩
    replace hB := hB.trans (hb.mono hB.size)
    clear hb g0 g1
    go_wp2_with fail
    go_ret
    exact ⟨rfl, hB⟩
  · have hxx : bits .xor .u8 (txt A (text.size + p)) to = xorw (txt A (text.size + p)) to := by
      rw [u8_xor _ _ (txt_b _ _).1 (txt_b _ _).2 (by omega) (by omega)]
      rfl
    have HTB : Hid (0 ≤ xorw (txt A (text.size + p)) to ∧ xorw (txt A (text.size + p)) to < 256) := Hid.mk (xorw_b (txt_b _ _) (by omega))
    have hO2 : ∀ w, Calls Try.prog 12 #[.agg (WA .u8 32 key), .agg (WA .u8 12 nonce), .string (mkS A.size (upd (txt A) (text.size + p) (xorw (txt A (text.size + p)) to))), .string beside] w fun e w' => e = .returned (.tuple #[.string ByteArray.empty, .int .i64 13]) ∧ Below w.heap.size w w' := hO to (by omega)
    clear hO hto
    generalize xorw (txt A (text.size + p)) to = y at *
    have hk : text.size + p < A.size := by omega
    have c0 := hR.cell (text.size + p) hk
    have f0 := hR.free (text.size + p) hk
    have hkI : (text.size : Int) + (p : Int) = ((text.size + p : Nat) : Int) := by omega
    have hyb : ∀ j, j < A.size → 0 ≤ upd (txt A) (text.size + p) y j ∧ upd (txt A) (text.size + p) y j < 256 := fun j _ => by
      unfold upd
      split
      · exact HTB.out
      · exact txt_b A j
    have hcv := str_back (text.size + 16) v1.heap.size cp _ A.size (upd (txt A) (text.size + p) y) (hR.set (text.size + p) y) hyb hA.symm
    replace g0 := g0.only (only_set (w := v3) (g := v1.heap.size) (i := text.size + p) (v := .int .u8 y)) (by omega)
    replace g1 := g1.only (only_set (w := v3) (g := v1.heap.size) (i := text.size + p) (v := .int .u8 y)) (by omega)
    replace hB := Below.setCell (p := ⟨v1.heap.size, text.size + p, none⟩) hB (by show w.heap.size ≤ v1.heap.size; omega) (.int .u8 y)
    clear hR hyb HTB
    generalize txt A (text.size + p) = z at *
    generalize mkS A.size (upd (txt A) (text.size + p) y) = bx at *
    generalize text.size + p = kk at *
    go_wp2_with (first | (refine ld_arrG isArr32 g0 (by rfl) (by rfl) ?_) | (refine ld_arrG isArr12 g1 (by rfl) (by rfl) ?_))
    clear c0 f0 hxx hcv
    refine (hO2 _).mono ?_
    rintro e v4 ⟨rfl, hb⟩
    replace g0 := g0.kept hb
    replace g1 := g1.kept hb
    replace hB := hB.trans (hb.mono hB.size)
  
    clear hb
    clear hO2
    go_wp2_with fail
    refine wp_gen (fun v => ArrAt v w.heap.size .u8 22 32 key ∧ ArrAt v (w.heap.size + 1) .u8 24 12 nonce ∧ Below w.heap.size w v) ⟨g0, g1, hB⟩ ?_
    clear g0 g1 hB
    rintro v0 ⟨g0, g1, hB⟩
    have HG0 : Hid (∀ u, Below v0.heap.size v0 u → ArrAt u w.heap.size .u8 22 32 key) := Hid.mk (fun u hu => g0.kept hu)
    have HG1 : Hid (∀ u, Below v0.heap.size v0 u → ArrAt u (w.heap.size + 1) .u8 24 12 nonce) := Hid.mk (fun u hu => g1.kept hu)
    refine wp_region3 (Below v0.heap.size v0) v0.heap.size
      ([] : List (Nat × Cont))
      [kv (.agg (WA .u8 32 key)), kv (.agg (WA .u8 12 nonce)), kv (.string A), kv (.int .i64 at_), kv (.int .i64 (p : Int)), kv (.string (A.extract 0 p)), kv (.string beside), kv (.tuple #[.string ByteArray.empty, .int .i64 13]), kv (.tuple #[.string ByteArray.empty, .int .i64 13]), kv (.string ByteArray.empty), kv (.int .i64 13), kv (.string ByteArray.empty), kv (.int .i64 13)]
      [.none, .none, .none, .none, .none, .none, .none, .none, .none, .none, .none, .none, .none]
      [some 59, some 60, some 61, some 62, some 63, some 64, some 65, some 66, some 58, some 67, some 68, some 18, some 19]
      [(6, .pointer (some ⟨w.heap.size, 0, none⟩)), (7, .pointer (some ⟨(w.heap.size + 1), 0, none⟩)), (13, .string A), (4, .int .i64 at_), (3, .string beside)]
      [[], [], [], [], [.slot 3], [.slot 2, .slot 4], [], [.slot 0, .slot 1, .slot 5, .slot 6], [.slot 7], [.slot 8], [.slot 8], [.slot 9], [.slot 10]]
      [.slot 11, .slot 12] [59, 60, 61, 62, 63, 64, 65, 66, 58, 67, 68, 18, 19]
      rfl (by kernel_rfl) ⟨rfl, rfl, rfl, rfl, rfl, trivial⟩ (Below.refl _ v0).drew (Nat.le_refl _) trivial trivial (below_G (Nat.le_refl _) trivial)
      ⟨
        -- 0
        (fun Q aq ww own hS hBg fr kn => .inl ⟨trivial, fun K hK => wp_value (look_arr rfl isArr32 (HG0.out ww hS) fr.1) (hK _ _ ⟨Touch.refl _ _, rfl⟩)⟩),
        -- 1
        (fun Q aq ww own hS hBg fr kn => .inl ⟨trivial, fun K hK => wp_value (look_arr rfl isArr12 (HG1.out ww hS) fr.2.1) (hK _ _ ⟨Touch.refl _ _, rfl⟩)⟩),
        -- 2
        (fun Q aq ww own hS hBg fr kn => .inl ⟨trivial, fun K hK => wp_value (exec_move rfl fr.2.2.1) (hK _ _ ⟨Touch.refl _ _, rfl⟩)⟩),
        -- 3
        (fun Q aq ww own hS hBg fr kn => .inl ⟨trivial, fun K hK => wp_value (exec_move rfl fr.2.2.2.1) (hK _ _ ⟨Touch.refl _ _, rfl⟩)⟩),
        -- 4
        (fun Q aq ww own hS hBg fr kn => .inl ⟨trivial, fun K hK => stepc enterPick rfl (args2 kn.1 rfl) (HPK.out ww) (fun w' hb => hK _ _ ⟨touch_below hb, rfl⟩)⟩),
        -- 5
        (fun Q aq ww own hS hBg fr kn => .inl ⟨trivial, fun K hK => wp_value (exec_slH rfl kn.1 kn.2.1 (strH A p ww HPA.out)) (hK _ _ ⟨Touch.refl _ _, rfl⟩)⟩),
        -- 6
        (fun Q aq ww own hS hBg fr kn => .inl ⟨trivial, fun K hK => wp_value (exec_move rfl fr.2.2.2.2.1) (hK _ _ ⟨Touch.refl _ _, rfl⟩)⟩),
        -- 7
        (fun Q aq ww own hS hBg fr kn => .inl ⟨trivial, fun K hK => stepc enterOpen rfl (args4 kn.1 kn.2.1 kn.2.2.1 kn.2.2.2.1) (HOS.out ww) (fun w' hb => hK _ _ ⟨touch_below hb, rfl⟩)⟩),
        -- 8
        (fun Q aq ww own hS hBg fr kn => .inl ⟨trivial, fun K hK => wp_value (exec_move rfl kn.1) (hK _ _ ⟨Touch.refl _ _, rfl⟩)⟩),
        -- 9
        (fun Q aq ww own hS hBg fr kn => .inl ⟨trivial, fun K hK => wp_value (exec_ext rfl kn.1 rfl) (hK _ _ ⟨Touch.refl _ _, rfl⟩)⟩),
        -- 10
        (fun Q aq ww own hS hBg fr kn => .inl ⟨trivial, fun K hK => wp_value (exec_ext rfl kn.1 rfl) (hK _ _ ⟨Touch.refl _ _, rfl⟩)⟩),
        -- 11
        (fun Q aq ww own hS hBg fr kn => .inl ⟨trivial, fun K hK => wp_value (exec_assign rfl kn.1) (hK _ _ ⟨Touch.refl _ _, rfl⟩)⟩),
        -- 12
        (fun Q aq ww own hS hBg fr kn => .inl ⟨trivial, fun K hK => wp_value (exec_assign rfl kn.1) (hK _ _ ⟨Touch.refl _ _, rfl⟩)⟩),
        trivial⟩ ?_
    intro vs own v5 hB5 hs5 kn inj
    clear inj hs5
    replace g0 := g0.kept hB5
    replace g1 := g1.kept hB5
    replace hB := hB.trans (hB5.mono hB.size)
    have e18 : vs 18 = .string ByteArray.empty := kn.1
    have e19 : vs 19 = .int .i64 13 := kn.2.1
    clear kn hB5 HG0 HG1
    simp only [putAll, Act.put, List.setIfInBounds_toArray, List.set_cons_zero, List.set_cons_succ, e18, e19]
    go_wp2_with (first | (refine ld_arrG isArr32 g0 (by rfl) (by rfl) ?_) | (refine ld_arrG isArr12 g1 (by rfl) (by rfl) ?_) | (refine wl_value (by rfl) (exec_eqS (s := ByteArray.empty) rfl (by rfl) (by rfl)) ?_) | (refine wl_value (by rfl) (exec_eqE (n := 13) rfl (by rfl) (by rfl)) ?_))
    refine (hS _).mono ?_
    rintro e v6 ⟨rfl, hb⟩
    replace g0 := g0.kept hb
    replace g1 := g1.kept hb
    replace hB := hB.trans (hb.mono hB.size)
  
    clear hb
    clear hS
    go_wp2_with (first | (refine wl_value (by rfl) (exec_eqS rfl (by rfl) (by rfl)) ?_))
    refine (awake_run _).mono ?_
    rintro e v8 ⟨rfl, hb⟩
    replace hB := hB.trans (hb.mono hB.size)
    clear hb g0 g1
    go_wp2_with fail
    go_ret
    exact ⟨rfl, hB⟩
theorem marks_lift (key : Nat → Int) (hk : Byts 32 key) (nonce : Nat → Int) (hn : Byts 12 nonce) (text : ByteArray) (ht : text.data.toList.length ≤ reachBytes) (beside : ByteArray) (hb : beside.data.toList.length ≤ reachBytes) (at_ : Int) (ha : (Lit.int .i64 at_).wf = true) (to : Int) (hto : (Lit.int .u8 to).wf = true) (w : World) :
    Calls Try.prog 5 #[.agg (WA .u8 32 key), .agg (WA .u8 12 nonce), .string text, .string beside, .int .i64 at_, .int .u8 to] w fun e w' => e = .returned (.bool true) ∧ Below w.heap.size w w' :=
  marks_walk key nonce text beside at_ to w hk hn (reach_size ht) (Nat.le_trans (reach_size hb) (by decide)) (by have := bounds_i64 ha; omega) (by have := bounds_u8 hto; omega)
end Go.Proofs.Ytfkgfojofdachaa
