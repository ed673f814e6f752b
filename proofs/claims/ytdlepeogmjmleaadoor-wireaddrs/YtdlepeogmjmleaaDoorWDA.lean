/-
  Own text. The document's Text.
-/
import Derived.Test.YtdlepeogmjmleaaDoorJ4
namespace Go.Proofs.YtdlepeogmjmleaaDoor
open Go.RowKit Go.Proofs
set_option maxRecDepth 100000
set_option maxHeartbeats 4000000 in
theorem rpair_run (v : Bool) (b : Nat → Int) (k : Nat) (w : World) (hb : Byts 16 b) (hk : k < 8) : Calls Tryd.prog 26 #[.agg (SC 17 (adV v b)), .int .i64 (k : Int)] w fun e w' => e = .returned (.int .i64 (prF b k : Int)) ∧ Below w.heap.size w w' := by
  have h1 := hb (2 * k) (by omega)
  have h2 := hb (2 * k + 1) (by omega)
  obtain ⟨X, hXe⟩ : ∃ X : Nat, b (2 * k) = (X : Int) := ⟨(b (2 * k)).toNat, by omega⟩
  obtain ⟨Y, hYe⟩ : ∃ Y : Nat, b (2 * k + 1) = (Y : Int) := ⟨(b (2 * k + 1)).toNat, by omega⟩
  have hX : X < 256 := by omega
  have hY : Y < 256 := by omega
  have HPR : Hid (prF b k = 256 * X + Y) := Hid.mk (by unfold prF; rw [hXe, hYe]; simp; omega)
  go_enter Tryd.func26, Tryd.ntmps26
  go_wp2_with (refine wl_boxO rfl rfl isAddr (by rfl) ?_; intro g u1 hg g1 hB1; refine Hid.out ?_)
  refine Hid.mk ?_
  have HCX : Hid (∀ ww, Below u1.heap.size u1 ww → ww.cell? ⟨g, 1 + (2 * k), none⟩ = some (.int .u8 (X : Int))) := Hid.mk (fun ww hh => by
    have := ad_b (SAt.kept g1 hh) (2 * k) (by omega)
    rw [hXe] at this
    exact this)
  have HCY : Hid (∀ ww, Below u1.heap.size u1 ww → ww.cell? ⟨g, 1 + (2 * k + 1), none⟩ = some (.int .u8 (Y : Int))) := Hid.mk (fun ww hh => by
    have := ad_b (SAt.kept g1 hh) (2 * k + 1) (by omega)
    rw [hYe] at this
    exact this)
  clear h1 h2 hXe hYe
  go_upto_region 1 with fail
  refine wp_region3 (Below u1.heap.size u1) u1.heap.size
      ([] : List (Nat × Cont))
      [kv (.int .i64 (k : Int)), kv (.int .i64 ((2 * k : Nat) : Int)), kv (.pointer (some ⟨g, 1, none⟩)), kv (.pointer (some ⟨g, 1 + (2 * k), none⟩)), kv (.int .u8 (X : Int)), kv (.int .i64 (X : Int)), kv (.int .i64 ((256 * X : Nat) : Int)), kv (.int .i64 (k : Int)), kv (.int .i64 ((2 * k : Nat) : Int)), kv (.int .i64 ((2 * k + 1 : Nat) : Int)), kv (.pointer (some ⟨g, 1, none⟩)), kv (.pointer (some ⟨g, 1 + (2 * k + 1), none⟩)), kv (.int .u8 (Y : Int)), kv (.int .i64 (Y : Int)), kv (.int .i64 ((256 * X + Y : Nat) : Int)), kv (.int .i64 ((256 * X + Y : Nat) : Int))]
      [.none, .none, .none, .none, .none, .none, .none, .none, .none, .none, .none, .none, .none, .none, .none, .none]
      [some 5, some 6, some 7, some 8, some 9, some 10, some 11, some 12, some 13, some 14, some 15, some 16, some 17, some 18, some 19, some 4]
      [(1, .int .i64 (k : Int)), (2, .pointer (some ⟨g, 0, none⟩))]
      [[], [.slot 0], [], [.slot 2, .slot 1], [.slot 3], [.slot 4], [.slot 5], [], [.slot 7], [.slot 8], [], [.slot 10, .slot 9], [.slot 11], [.slot 12], [.slot 6, .slot 13], [.slot 14]]
      [.slot 15] [5, 6, 7, 8, 9, 10, 11, 12, 13, 14, 15, 16, 17, 18, 19, 4]
      rfl (by kernel_rfl) ⟨rfl, rfl, trivial⟩ ((Below.refl _ u1).drew) (Nat.le_refl _) trivial trivial (below_GcW (Nat.le_refl _))
      ⟨
        (fun Q aq ww own hS hBg fr kn => .inl ⟨trivial, fun K hK => wp_value (exec_move rfl fr.1) (hK _ _ ⟨Touch.refl _ _, rfl⟩)⟩),
        (fun Q aq ww own hS hBg fr kn => .inl ⟨trivial, fun K hK => wp_value (exec_mulW (i := 2) (m := k) rfl rfl kn.1 rfl (by omega)) (hK _ _ ⟨Touch.refl _ _, rfl⟩)⟩),
        (fun Q aq ww own hS hBg fr kn => .inl ⟨trivial, fun K hK => wp_value (exec_fadW1 rfl fr.2.1) (hK _ _ ⟨Touch.refl _ _, rfl⟩)⟩),
        (fun Q aq ww own hS hBg fr kn => .inl ⟨trivial, fun K hK => wp_value (exec_ixW16 (k := 2 * k) rfl kn.1 kn.2.1 (by omega)) (hK _ _ ⟨Touch.refl _ _, rfl⟩)⟩),
        (fun Q aq ww own hS hBg fr kn => .inl ⟨trivial, fun K hK => wp_value (exec_ld rfl kn.1 (ldW8 (HCX.out ww hS))) (hK _ _ ⟨Touch.refl _ _, rfl⟩)⟩),
        (fun Q aq ww own hS hBg fr kn => .inl ⟨trivial, fun K hK => wp_value (exec_cvW (m := (X : Int)) rfl kn.1 (by omega) (by omega)) (hK _ _ ⟨Touch.refl _ _, rfl⟩)⟩),
        (fun Q aq ww own hS hBg fr kn => .inl ⟨trivial, fun K hK => wp_value (exec_mulW (i := 256) (m := X) rfl rfl kn.1 rfl (by omega)) (hK _ _ ⟨Touch.refl _ _, rfl⟩)⟩),
        (fun Q aq ww own hS hBg fr kn => .inl ⟨trivial, fun K hK => wp_value (exec_move rfl fr.1) (hK _ _ ⟨Touch.refl _ _, rfl⟩)⟩),
        (fun Q aq ww own hS hBg fr kn => .inl ⟨trivial, fun K hK => wp_value (exec_mulW (i := 2) (m := k) rfl rfl kn.1 rfl (by omega)) (hK _ _ ⟨Touch.refl _ _, rfl⟩)⟩),
        (fun Q aq ww own hS hBg fr kn => .inl ⟨trivial, fun K hK => wp_value (exec_addW (i := 2 * k) (m := 1) rfl kn.1 rfl rfl (by omega)) (hK _ _ ⟨Touch.refl _ _, rfl⟩)⟩),
        (fun Q aq ww own hS hBg fr kn => .inl ⟨trivial, fun K hK => wp_value (exec_fadW1 rfl fr.2.1) (hK _ _ ⟨Touch.refl _ _, rfl⟩)⟩),
        (fun Q aq ww own hS hBg fr kn => .inl ⟨trivial, fun K hK => wp_value (exec_ixW16 (k := 2 * k + 1) rfl kn.1 kn.2.1 (by omega)) (hK _ _ ⟨Touch.refl _ _, rfl⟩)⟩),
        (fun Q aq ww own hS hBg fr kn => .inl ⟨trivial, fun K hK => wp_value (exec_ld rfl kn.1 (ldW8 (HCY.out ww hS))) (hK _ _ ⟨Touch.refl _ _, rfl⟩)⟩),
        (fun Q aq ww own hS hBg fr kn => .inl ⟨trivial, fun K hK => wp_value (exec_cvW (m := (Y : Int)) rfl kn.1 (by omega) (by omega)) (hK _ _ ⟨Touch.refl _ _, rfl⟩)⟩),
        (fun Q aq ww own hS hBg fr kn => .inl ⟨trivial, fun K hK => wp_value (exec_addW (i := 256 * X) (m := Y) rfl kn.1 kn.2.1 rfl (by omega)) (hK _ _ ⟨Touch.refl _ _, rfl⟩)⟩),
        (fun Q aq ww own hS hBg fr kn => .inl ⟨trivial, fun K hK => wp_value (exec_assign rfl kn.1) (hK _ _ ⟨Touch.refl _ _, rfl⟩)⟩),
        trivial⟩ ?_
  intro vs own u6 hB6 hsz6 kn inj
  have e4 : vs 4 = .int .i64 ((256 * X + Y : Nat) : Int) := kn.1
  clear kn inj hsz6
  simp only [putAll, Act.put, List.setIfInBounds_toArray, List.set_cons_zero, List.set_cons_succ, e4]
  clear e4
  go_wp2_with fail
  go_ret
  exact ⟨by rw [HPR.out]; rfl, hB1.trans (hB6.mono hB1.size)⟩
theorem runZ_add (z : Nat → Bool) (m : Nat) : ∀ n i, m ≤ n → (∀ j, j < m → z (i + j) = true) → runZ z i n = m + runZ z (i + m) (n - m) := by
  induction m with
  | zero => intro n i _ _; rw [Nat.add_zero, Nat.sub_zero, Nat.zero_add]
  | succ m ih =>
    intro n i h hz
    cases n with
    | zero => omega
    | succ n =>
      have h0 : z i = true := hz 0 (by omega)
      have ih2 := ih n (i + 1) (by omega) (fun j hj => by
        have := hz (j + 1) (by omega)
        rw [show i + (j + 1) = i + 1 + j by omega] at this
        exact this)
      rw [runZ, if_pos h0, ih2, show i + 1 + m = i + (m + 1) by omega, show n + 1 - (m + 1) = n - m by omega]
      omega
set_option maxHeartbeats 16000000 in
theorem rrow_run (v : Bool) (b : Nat → Int) (w : World) (hb : Byts 16 b) : Calls Tryd.prog 24 #[.agg (SC 17 (adV v b))] w fun e w' => e = .returned (.tuple #[.int .i64 ((rowP (prF b)).1 : Int), .int .i64 ((rowP (prF b)).2 : Int)]) ∧ Below w.heap.size w w' := by
  have HPA : Hid (∀ (k : Nat) (ww : World), k < 8 → Calls Tryd.prog 26 #[.agg (SC 17 (adV v b)), .int .i64 (k : Int)] ww fun e w' => e = .returned (.int .i64 (prF b k : Int)) ∧ Below ww.heap.size ww w') := Hid.mk (fun k ww hk => rpair_run v b k ww hb hk)
  have HZ : Hid (∀ k, zP (prF b) k = decide (prF b k = 0)) := Hid.mk (fun k => rfl)
  have HRW : Hid (rowP (prF b) = rowD (zP (prF b)) 8) := Hid.mk (by unfold rowP; rfl)
  generalize prF b = pr at *
  generalize zP pr = z at *
  go_enter Tryd.func24, Tryd.ntmps24
  go_wp2_with (refine wl_boxO rfl rfl isAddr (by rfl) ?_; intro g u1 hg g1 hB1; refine Hid.out ?_)
  refine Hid.mk ?_
  have HS0 : Hid (SAt u1 g 24 17 (adV v b) ∧ Below w.heap.size w u1) := Hid.mk ⟨g1, hB1⟩
  clear g1 hB1
  go_wp2_with fail
  go_loopg [4, 5, 6] 8 (fun gm s4 s5 s6 y => ∃ k a l : Nat, Hid (gm + k = 8) ∧ k ≤ 8 ∧ s6 = .int .i64 (k : Int) ∧ s4 = .int .i64 (a : Int) ∧ s5 = .int .i64 (l : Int) ∧ l ≤ 8 ∧ Hid (rowD z k = (a, l)) ∧ Hid (SAt y g 24 17 (adV v b) ∧ Below w.heap.size w y))
  case atStart => exact ⟨0, 0, 0, Hid.mk rfl, by omega, rfl, rfl, rfl, by omega, Hid.mk rfl, HS0⟩
  case round =>
    obtain ⟨k, a, l, HK, hk8, rfl, rfl, rfl, hl8, HR, HW⟩ := hrel
    clear HS0
    obtain ⟨wO, hwO⟩ : ∃ x, x = wr := ⟨_, rfl⟩
    rw [← hwO] at HW ⊢
    clear hwO
    by_cases hk : k < 8
    · have hki : (k : Int) < 8 := by omega
      go_wp2_with fail
      have HGK := Hid.mk HK.out
      generalize gk = gk0 at *
      obtain ⟨F, hF⟩ : ∃ F, 8 - k = F := ⟨_, rfl⟩
      go_loopg [7] F (fun gm s7 y => ∃ m : Nat, Hid (gm + m = F) ∧ m ≤ F ∧ s7 = .int .i64 (m : Int) ∧ Hid (∀ j, j < m → z (k + j) = true) ∧ Hid (SAt y g 24 17 (adV v b) ∧ Below w.heap.size w y))
      case atStart => exact ⟨0, Hid.mk (by omega), by omega, rfl, Hid.mk (fun j hj => by omega), HW⟩
      case round =>
        obtain ⟨m, HM, hmF, rfl, HA, HV⟩ := hrel
        obtain ⟨wI, hwI⟩ : ∃ x, x = wr := ⟨_, rfl⟩
        rw [← hwI] at HV ⊢
        clear hwI
        have HRUN : Hid (∀ (q : runZ z (k + m) (F - m) = 0), runZ z k (8 - k) = m) := Hid.mk (fun q => by
          rw [hF, runZ_add z m F k hmF HA.out, q]
          rfl)
        obtain ⟨q, hq⟩ : ∃ q, k + m = q := ⟨_, rfl⟩
        have HQ := Hid.mk hq
        by_cases hm : q < 8
        · have hmi : (q : Int) < 8 := by omega
          have gV := HV.out.1
          have HC := Hid.mk (HPA.out q wI hm)
          obtain ⟨p, hp⟩ : ∃ p, pr q = p := ⟨_, rfl⟩
          rw [hp] at HC
          have hZk := HZ.out q
          rw [hp] at hZk
          by_cases hp0 : p = 0
          · subst hp0
            have hzt : z q = true := by rw [hZk]; rfl
            clear hZk hp hq
            go_wp2_with (first | (refine wl_value rfl (look_st rfl isAddr gV (by rfl)) ?_) | (refine wl_value rfl (exec_addW (i := k) (m := m) rfl (by rfl) (by rfl) HQ.out (by omega)) ?_) | (go_at_call 26; refine HC.out.mono ?_; rintro e w2 ⟨rfl, hB2⟩; refine Hid.out ?_))
            refine Hid.mk ?_
            have HV2 : Hid (SAt w2 g 24 17 (adV v b) ∧ Below w.heap.size w w2) := Hid.mk ⟨SAt.kept gV hB2, HV.out.2.trans (hB2.mono HV.out.2.size)⟩
            have HA2 : Hid (∀ j, j < m + 1 → z (k + j) = true) := Hid.mk (fun j hj => by
              by_cases e : j = m
              · rw [e, HQ.out]; exact hzt
              · exact HA.out j (by omega))
            clear HV gV hB2 HA HC
            go_wp2_with fail
            go_roundg (F - (m + 1))
            case rel => have hQ := HQ.out; exact ⟨m + 1, Hid.mk (by omega), by omega, by go_num, HA2, HV2⟩
            case measure => have := HM.out; have hQ := HQ.out; omega
          · have hpi : ((p : Int) == 0) = false := beq_eq_false_iff_ne.2 (by omega)
            have hrun : runZ z k (8 - k) = m := HRUN.out (by
              obtain ⟨q2, hq2⟩ : ∃ q2, F - m = q2 + 1 := ⟨F - m - 1, by omega⟩
              rw [hq2, runZ, if_neg (by rw [HQ.out, hZk, decide_eq_false hp0]; decide)])
            clear hZk hp hq
            go_wp2_with (first | (refine wl_value rfl (look_st rfl isAddr gV (by rfl)) ?_) | (refine wl_value rfl (exec_addW (i := k) (m := m) rfl (by rfl) (by rfl) HQ.out (by omega)) ?_) | (go_at_call 26; refine HC.out.mono ?_; rintro e w2 ⟨rfl, hB2⟩; refine Hid.out ?_))
            refine Hid.mk ?_
            have HV2 : Hid (SAt w2 g 24 17 (adV v b) ∧ Below w.heap.size w w2) := Hid.mk ⟨SAt.kept gV hB2, HV.out.2.trans (hB2.mono HV.out.2.size)⟩
            clear HV gV hB2 HA HC
            by_cases hbig : l < m ∧ 2 ≤ m
            · have b1 : (l : Int) < (m : Int) := by omega
              have b2 : (2 : Int) ≤ (m : Int) := by omega
              have HX : Hid (rowD z (k + 1) = (k, m)) := Hid.mk (by rw [rowD, HR.out, hrun]; show (if l < m ∧ 2 ≤ m then _ else _) = _; rw [if_pos hbig])
              clear hbig hrun
              go_wp2_with fail
              go_roundg (8 - (k + 1))
              case rel => exact ⟨k + 1, k, m, Hid.mk (by omega), by omega, by go_num, rfl, rfl, by omega, HX, HV2⟩
              case measure => have := HGK.out; omega
            · have HX : Hid (rowD z (k + 1) = (a, l)) := Hid.mk (by rw [rowD, HR.out, hrun]; show (if l < m ∧ 2 ≤ m then _ else _) = _; rw [if_neg hbig])
              by_cases b1 : l < m
              · have b1i : (l : Int) < (m : Int) := by omega
                have b2 : ¬ (2 : Int) ≤ (m : Int) := by omega
                clear hbig hrun
                go_wp2_with fail
                go_roundg (8 - (k + 1))
                case rel => exact ⟨k + 1, a, l, Hid.mk (by omega), by omega, by go_num, rfl, rfl, by omega, HX, HV2⟩
                case measure => have := HGK.out; omega
              · have b1i : ¬ (l : Int) < (m : Int) := by omega
                clear hbig hrun
                go_wp2_with fail
                go_roundg (8 - (k + 1))
                case rel => exact ⟨k + 1, a, l, Hid.mk (by omega), by omega, by go_num, rfl, rfl, by omega, HX, HV2⟩
                case measure => have := HGK.out; omega
        · have hmi : ¬ (q : Int) < 8 := by omega
          have hrun : runZ z k (8 - k) = m := HRUN.out (by rw [show F - m = 0 by omega]; rfl)
          have HV2 := HV
          have hq8 : q ≤ 8 := by have := HQ.out; omega
          clear HA HV hq
          by_cases hbig : l < m ∧ 2 ≤ m
          · have b1 : (l : Int) < (m : Int) := by omega
            have b2 : (2 : Int) ≤ (m : Int) := by omega
            have HX : Hid (rowD z (k + 1) = (k, m)) := Hid.mk (by rw [rowD, HR.out, hrun]; show (if l < m ∧ 2 ≤ m then _ else _) = _; rw [if_pos hbig])
            clear hbig hrun
            go_wp2_with (refine wl_value rfl (exec_addW (i := k) (m := m) rfl (by rfl) (by rfl) HQ.out (by omega)) ?_)
            go_wp2_with fail
            go_roundg (8 - (k + 1))
            case rel => exact ⟨k + 1, k, m, Hid.mk (by omega), by omega, by go_num, rfl, rfl, by omega, HX, HV2⟩
            case measure => have := HGK.out; omega
          · have HX : Hid (rowD z (k + 1) = (a, l)) := Hid.mk (by rw [rowD, HR.out, hrun]; show (if l < m ∧ 2 ≤ m then _ else _) = _; rw [if_neg hbig])
            by_cases b1 : l < m
            · have b1i : (l : Int) < (m : Int) := by omega
              have b2 : ¬ (2 : Int) ≤ (m : Int) := by omega
              clear hbig hrun
              go_wp2_with (refine wl_value rfl (exec_addW (i := k) (m := m) rfl (by rfl) (by rfl) HQ.out (by omega)) ?_)
              go_wp2_with fail
              go_roundg (8 - (k + 1))
              case rel => exact ⟨k + 1, a, l, Hid.mk (by omega), by omega, by go_num, rfl, rfl, by omega, HX, HV2⟩
              case measure => have := HGK.out; omega
            · have b1i : ¬ (l : Int) < (m : Int) := by omega
              clear hbig hrun
              go_wp2_with (refine wl_value rfl (exec_addW (i := k) (m := m) rfl (by rfl) (by rfl) HQ.out (by omega)) ?_)
              go_wp2_with fail
              go_roundg (8 - (k + 1))
              case rel => exact ⟨k + 1, a, l, Hid.mk (by omega), by omega, by go_num, rfl, rfl, by omega, HX, HV2⟩
              case measure => have := HGK.out; omega
    · have hk2 : k = 8 := by omega
      subst hk2
      go_wp2_with fail
      exact bodyPost_ret (results_two rfl (by rfl) (by rfl)) rfl ⟨by rw [HRW.out, HR.out]; rfl, HW.out.2⟩
end Go.Proofs.YtdlepeogmjmleaaDoor
