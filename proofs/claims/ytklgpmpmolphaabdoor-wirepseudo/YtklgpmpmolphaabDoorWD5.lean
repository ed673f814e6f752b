/-
  Own text. The document's Pseudo.
-/
import Derived.Test.YtklgpmpmolphaabDoorJ2
namespace Go.Proofs.YtklgpmpmolphaabDoor
open Go.RowKit Go.Proofs Go.Lib
set_option maxRecDepth 100000
/-- A pseudo header. -/
def pseT (v1 : Bool) (b1 : Nat → Int) (v2 : Bool) (b2 : Nat → Int) (pr sz : Nat) : ByteArray := if v1 = true then bytT v1 b1 ++ bytT v2 b2 ++ putT sz 4 ++ putT pr 4 else bytT v1 b1 ++ bytT v2 b2 ++ putT pr 2 ++ putT sz 2
def pseOk (v1 : Bool) (b1 : Nat → Int) (v2 : Bool) (b2 : Nat → Int) (pr sz : Int) : Prop := validF v1 b1 = true ∧ validF v2 b2 = true ∧ v1 = v2 ∧ 0 ≤ pr ∧ pr ≤ 255 ∧ 0 ≤ sz ∧ sz ≤ 65535
theorem exec_cvIU {a : Act} {o : Oper} {w : World} {x : Operand} (ho : o.op = .convert 3 36 x) {m : Nat} (hx : a.eval x = .int .i64 (m : Int)) (h1 : m < 1000000000) : (execOp a.eval o).run Tryd.prog w = .ok (.value (.int .u64 (m : Int))) w := by
  have e : IntKind.u64.wrap (m : Int) = (m : Int) := by rw [IntKind.wrap_u64]; omega
  unfold execOp
  simp only [ho, hx]
  simp [go_sem, e]
theorem enterW_By (args : Array Value) (w : World) : (callFunc 16 args).run Tryd.prog w = .ok (.enter 16 args) w := by kernel_rfl
theorem enterW_Pu (args : Array Value) (w : World) : (callFunc 17 args).run Tryd.prog w = .ok (.enter 17 args) w := by kernel_rfl
set_option maxHeartbeats 8000000 in
theorem rPseudo_no (v1 : Bool) (b1 : Nat → Int) (v2 : Bool) (b2 : Nat → Int) (pr sz : Int) (w : World) (h : ¬ pseOk v1 b1 v2 b2 pr sz) : Calls Tryd.prog 6 #[.agg (SC 17 (adV v1 b1)), .agg (SC 17 (adV v2 b2)), .int .i64 pr, .int .i64 sz] w fun e w' => e = .returned (.string ByteArray.empty) ∧ Below w.heap.size w w' := by
  unfold pseOk at h
  have HR1 := Hid.mk (rValid_run v1 b1)
  have HR2 := Hid.mk (rValid_run v2 b2)
  generalize validF v1 b1 = r1 at *
  generalize validF v2 b2 = r2 at *
  go_enter Tryd.func6, Tryd.ntmps6
  go_wp2_with (refine wl_boxWW rfl rfl rfl rfl isAddr isAddr (by rfl) (fun u => by rfl) ?_; intro g1 g2 u2 hg1 hg2 q1a q2 hB2; refine Hid.out ?_)
  refine Hid.mk ?_
  go_wp2_with (refine wl_value rfl (look_st rfl isAddr q1a (by rfl)) ?_)
  refine (HR1.out u2).mono ?_
  rintro e u3 ⟨rfl, hB3⟩
  have q2b := SAt.kept q2 hB3
  go_wp2_with (refine wl_value rfl (look_st rfl isAddr q2b (by rfl)) ?_)
  refine (HR2.out u3).mono ?_
  rintro e u4 ⟨rfl, hB4⟩
  have c1 := ad_v (SAt.kept (SAt.kept q1a hB3) hB4)
  have c2 := ad_v (SAt.kept q2b hB4)
  have hBd : Below w.heap.size w u4 := (hB2.trans (hB3.mono hB2.size)).trans (hB4.mono (Nat.le_trans hB2.size hB3.size))
  clear HR1 HR2 q2 q1a q2b hB2 hB3 hB4
  cases r1
  · cases v1 <;> cases v2 <;> cases r2 <;> (go_wp2_with fail; go_ret; exact ⟨rfl, hBd⟩)
  · cases r2
    · cases v1 <;> cases v2 <;> (go_wp2_with fail; go_ret; exact ⟨rfl, hBd⟩)
    · by_cases hv : v1 = v2
      · subst hv
        have h' : pr < 0 ∨ 255 < pr ∨ sz < 0 ∨ 65535 < sz := by
          by_cases e1 : pr < 0
          · exact .inl e1
          · by_cases e2 : 255 < pr
            · exact .inr (.inl e2)
            · by_cases e3 : sz < 0
              · exact .inr (.inr (.inl e3))
              · exact .inr (.inr (.inr (Int.not_le.1 (fun e4 => h ⟨rfl, rfl, rfl, by omega, by omega, by omega, e4⟩))))
        clear h
        by_cases e1 : pr < 0
        · cases v1 <;> (go_wp2_with fail; go_ret; exact ⟨rfl, hBd⟩)
        · by_cases e2 : 255 < pr
          · cases v1 <;> (go_wp2_with fail; go_ret; exact ⟨rfl, hBd⟩)
          · by_cases e3 : sz < 0
            · cases v1 <;> (go_wp2_with fail; go_ret; exact ⟨rfl, hBd⟩)
            · have e4 : 65535 < sz := by omega
              cases v1 <;> (go_wp2_with fail; go_ret; exact ⟨rfl, hBd⟩)
      · cases v1 <;> cases v2 <;> first | exact absurd rfl hv | (go_wp2_with fail; go_ret; exact ⟨rfl, hBd⟩)
set_option maxHeartbeats 8000000 in
theorem rPseudo_run (v1 : Bool) (b1 : Nat → Int) (v2 : Bool) (b2 : Nat → Int) (pr sz : Nat) (w : World) (hb1 : Byts 16 b1) (hb2 : Byts 16 b2) (h : pseOk v1 b1 v2 b2 pr sz) : Calls Tryd.prog 6 #[.agg (SC 17 (adV v1 b1)), .agg (SC 17 (adV v2 b2)), .int .i64 (pr : Int), .int .i64 (sz : Int)] w fun e w' => e = .returned (.string (pseT v1 b1 v2 b2 pr sz)) ∧ Below w.heap.size w w' := by
  obtain ⟨hr1, hr2, hvv, _, hp1, _, hs1⟩ := h
  subst hvv
  obtain ⟨T, hT⟩ : ∃ T, pseT v1 b1 v1 b2 pr sz = T := ⟨_, rfl⟩
  rw [hT]
  have HT := Hid.mk hT.symm
  obtain ⟨t1, ht1⟩ : ∃ t, bytT v1 b1 = t := ⟨_, rfl⟩
  obtain ⟨t2, ht2⟩ : ∃ t, bytT v1 b2 = t := ⟨_, rfl⟩
  have HTT := Hid.mk (And.intro ht1 ht2)
  have hz1 : t1.size ≤ 16 := by rw [← ht1]; exact bytT_size _ _
  have hz2 : t2.size ≤ 16 := by rw [← ht2]; exact bytT_size _ _
  have HR1 := Hid.mk (rValid_run v1 b1)
  have HR2 := Hid.mk (rValid_run v1 b2)
  rw [hr1] at HR1
  rw [hr2] at HR2
  have HB1 : Hid (∀ ww, Calls Tryd.prog 16 #[.agg (SC 17 (adV v1 b1))] ww fun e w' => e = .returned (.string t1) ∧ Below ww.heap.size ww w') := Hid.mk (fun ww => by rw [← ht1]; exact rBytes_run v1 b1 ww hb1)
  have HB2 : Hid (∀ ww, Calls Tryd.prog 16 #[.agg (SC 17 (adV v1 b2))] ww fun e w' => e = .returned (.string t2) ∧ Below ww.heap.size ww w') := Hid.mk (fun ww => by rw [← ht2]; exact rBytes_run v1 b2 ww hb2)
  clear hT ht1 ht2 hr1 hr2 hb1 hb2
  have i1 : ¬ (pr : Int) < 0 := by omega
  have i2 : ¬ (255 : Int) < (pr : Int) := by omega
  have i3 : ¬ (sz : Int) < 0 := by omega
  have i4 : ¬ (65535 : Int) < (sz : Int) := by omega
  go_enter Tryd.func6, Tryd.ntmps6
  go_wp2_with (refine wl_boxWW rfl rfl rfl rfl isAddr isAddr (by rfl) (fun u => by rfl) ?_; intro g1 g2 u2 hg1 hg2 q1a q2 hB2; refine Hid.out ?_)
  refine Hid.mk ?_
  go_wp2_with (refine wl_value rfl (look_st rfl isAddr q1a (by rfl)) ?_)
  refine (HR1.out u2).mono ?_
  rintro e u3 ⟨rfl, hB3⟩
  have q2b := SAt.kept q2 hB3
  go_wp2_with (refine wl_value rfl (look_st rfl isAddr q2b (by rfl)) ?_)
  refine (HR2.out u3).mono ?_
  rintro e u4 ⟨rfl, hB4⟩
  have q1d := SAt.kept (SAt.kept q1a hB3) hB4
  have q2d := SAt.kept q2b hB4
  have c1 := ad_v q1d
  have c2 := ad_v q2d
  have hBd : Below w.heap.size w u4 := (hB2.trans (hB3.mono hB2.size)).trans (hB4.mono (Nat.le_trans hB2.size hB3.size))
  clear HR1 HR2 q2 q1a q2b hB2 hB3 hB4 hg1 hg2
  obtain ⟨vv, hvv⟩ : ∃ vv, v1 = vv := ⟨_, rfl⟩
  cases v1
  · have H1 : Hid (∀ ww, Below u4.heap.size u4 ww → SAt ww g1 24 17 (adV false b1)) := Hid.mk (fun ww hh => SAt.kept q1d hh)
    have H2 : Hid (∀ ww, Below u4.heap.size u4 ww → SAt ww g2 24 17 (adV false b2)) := Hid.mk (fun ww hh => SAt.kept q2d hh)
    clear q1d q2d hvv vv
    obtain ⟨usz, husz⟩ : ∃ u, putT sz 2 = u := ⟨_, rfl⟩
    obtain ⟨upr, hupr⟩ : ∃ u, putT pr 2 = u := ⟨_, rfl⟩
    have hszs : usz.size = 2 := by rw [← husz]; exact mkS_size _ _
    have hprs : upr.size = 2 := by rw [← hupr]; exact mkS_size _ _
    have HUsz : Hid (∀ ww, Calls Tryd.prog 17 #[.int .u64 (sz : Int), .int .i64 2] ww fun e w' => e = .returned (.string usz) ∧ Below ww.heap.size ww w') := Hid.mk (fun ww => by rw [← husz]; exact rPut_run sz 2 ww (by omega) (by omega) (by omega))
    have HUpr : Hid (∀ ww, Calls Tryd.prog 17 #[.int .u64 (pr : Int), .int .i64 2] ww fun e w' => e = .returned (.string upr) ∧ Below ww.heap.size ww w') := Hid.mk (fun ww => by rw [← hupr]; exact rPut_run pr 2 ww (by omega) (by omega) (by omega))
    have HT2 : Hid (T = (((t1 ++ t2) ++ upr) ++ usz)) := Hid.mk (by rw [HT.out]; simp [pseT, HTT.out.1, HTT.out.2, husz, hupr])
    clear husz hupr HT HTT
    go_upto_region 7 with fail
    refine wp_region3 (Below u4.heap.size u4) u4.heap.size
        ([] : List (Nat × Cont))
        [kv (.agg (SC 17 (adV false b1))), kv (.string t1), kv (.agg (SC 17 (adV false b2))), kv (.string t2), kv (.string (t1 ++ t2)), kv (.int .i64 (pr : Int)), kv (.int .u64 (pr : Int)), kv (.string upr), kv (.string ((t1 ++ t2) ++ upr)), kv (.int .i64 (sz : Int)), kv (.int .u64 (sz : Int)), kv (.string usz), kv (.string (((t1 ++ t2) ++ upr) ++ usz)), kv (.string (((t1 ++ t2) ++ upr) ++ usz))]
        [.none, .none, .none, .none, .none, .none, .none, .none, .none, .none, .none, .none, .none, .none]
        [some 59, some 60, some 61, some 62, some 63, some 64, some 65, some 66, some 67, some 68, some 69, some 70, some 71, some 8]
        [(4, .pointer (some ⟨g1, 0, none⟩)), (5, .pointer (some ⟨g2, 0, none⟩)), (2, .int .i64 (pr : Int)), (3, .int .i64 (sz : Int))]
        [[], [.slot 0], [], [.slot 2], [.slot 1, .slot 3], [], [.slot 5], [.slot 6], [.slot 4, .slot 7], [], [.slot 9], [.slot 10], [.slot 8, .slot 11], [.slot 12]]
        [.slot 13] [59, 60, 61, 62, 63, 64, 65, 66, 67, 68, 69, 70, 71, 8]
        rfl (by kernel_rfl) ⟨rfl, rfl, rfl, rfl, trivial⟩ ((Below.refl _ u4).drew) (Nat.le_refl _) trivial trivial (below_GcW (Nat.le_refl _))
        ⟨
          (fun Q aq ww own hS hBg fr kn => .inl ⟨trivial, fun K hK => wp_value (look_st rfl isAddr (H1.out ww hS) fr.1) (hK _ _ ⟨Touch.refl _ _, rfl⟩)⟩),
          (fun Q aq ww own hS hBg fr kn => .inl ⟨trivial, fun K hK => stepc enterW_By rfl (args1 kn.1) (HB1.out ww) (fun w' hb => hK _ _ ⟨touch_below hb, rfl⟩)⟩),
          (fun Q aq ww own hS hBg fr kn => .inl ⟨trivial, fun K hK => wp_value (look_st rfl isAddr (H2.out ww hS) fr.2.1) (hK _ _ ⟨Touch.refl _ _, rfl⟩)⟩),
          (fun Q aq ww own hS hBg fr kn => .inl ⟨trivial, fun K hK => stepc enterW_By rfl (args1 kn.1) (HB2.out ww) (fun w' hb => hK _ _ ⟨touch_below hb, rfl⟩)⟩),
          (fun Q aq ww own hS hBg fr kn => .inl ⟨trivial, fun K hK => wp_value (exec_catS rfl kn.1 kn.2.1 (by (try simp only [ByteArray.size_append]); omega)) (hK _ _ ⟨Touch.refl _ _, rfl⟩)⟩),
          (fun Q aq ww own hS hBg fr kn => .inl ⟨trivial, fun K hK => wp_value (exec_move rfl fr.2.2.1) (hK _ _ ⟨Touch.refl _ _, rfl⟩)⟩),
          (fun Q aq ww own hS hBg fr kn => .inl ⟨trivial, fun K hK => wp_value (exec_cvIU rfl kn.1 (by omega)) (hK _ _ ⟨Touch.refl _ _, rfl⟩)⟩),
          (fun Q aq ww own hS hBg fr kn => .inl ⟨trivial, fun K hK => stepc enterW_Pu rfl (args2 kn.1 rfl) (HUpr.out ww) (fun w' hb => hK _ _ ⟨touch_below hb, rfl⟩)⟩),
          (fun Q aq ww own hS hBg fr kn => .inl ⟨trivial, fun K hK => wp_value (exec_catS rfl kn.1 kn.2.1 (by (try simp only [ByteArray.size_append]); omega)) (hK _ _ ⟨Touch.refl _ _, rfl⟩)⟩),
          (fun Q aq ww own hS hBg fr kn => .inl ⟨trivial, fun K hK => wp_value (exec_move rfl fr.2.2.2.1) (hK _ _ ⟨Touch.refl _ _, rfl⟩)⟩),
          (fun Q aq ww own hS hBg fr kn => .inl ⟨trivial, fun K hK => wp_value (exec_cvIU rfl kn.1 (by omega)) (hK _ _ ⟨Touch.refl _ _, rfl⟩)⟩),
          (fun Q aq ww own hS hBg fr kn => .inl ⟨trivial, fun K hK => stepc enterW_Pu rfl (args2 kn.1 rfl) (HUsz.out ww) (fun w' hb => hK _ _ ⟨touch_below hb, rfl⟩)⟩),
          (fun Q aq ww own hS hBg fr kn => .inl ⟨trivial, fun K hK => wp_value (exec_catS rfl kn.1 kn.2.1 (by (try simp only [ByteArray.size_append]); omega)) (hK _ _ ⟨Touch.refl _ _, rfl⟩)⟩),
          (fun Q aq ww own hS hBg fr kn => .inl ⟨trivial, fun K hK => wp_value (exec_assign rfl kn.1) (hK _ _ ⟨Touch.refl _ _, rfl⟩)⟩),
          trivial⟩ ?_
    intro vs own u6 hB6 hsz6 kn inj
    have e8 : vs 8 = .string (((t1 ++ t2) ++ upr) ++ usz) := kn.1
    clear kn inj hsz6
    simp only [putAll, Act.put, List.setIfInBounds_toArray, List.set_cons_zero, List.set_cons_succ, e8]
    clear e8
    go_wp2_with fail
    go_ret
    exact ⟨by rw [HT2.out]; rfl, hBd.trans (hB6.mono hBd.size)⟩
  · have H1 : Hid (∀ ww, Below u4.heap.size u4 ww → SAt ww g1 24 17 (adV true b1)) := Hid.mk (fun ww hh => SAt.kept q1d hh)
    have H2 : Hid (∀ ww, Below u4.heap.size u4 ww → SAt ww g2 24 17 (adV true b2)) := Hid.mk (fun ww hh => SAt.kept q2d hh)
    clear q1d q2d hvv vv
    obtain ⟨usz, husz⟩ : ∃ u, putT sz 4 = u := ⟨_, rfl⟩
    obtain ⟨upr, hupr⟩ : ∃ u, putT pr 4 = u := ⟨_, rfl⟩
    have hszs : usz.size = 4 := by rw [← husz]; exact mkS_size _ _
    have hprs : upr.size = 4 := by rw [← hupr]; exact mkS_size _ _
    have HUsz : Hid (∀ ww, Calls Tryd.prog 17 #[.int .u64 (sz : Int), .int .i64 4] ww fun e w' => e = .returned (.string usz) ∧ Below ww.heap.size ww w') := Hid.mk (fun ww => by rw [← husz]; exact rPut_run sz 4 ww (by omega) (by omega) (by omega))
    have HUpr : Hid (∀ ww, Calls Tryd.prog 17 #[.int .u64 (pr : Int), .int .i64 4] ww fun e w' => e = .returned (.string upr) ∧ Below ww.heap.size ww w') := Hid.mk (fun ww => by rw [← hupr]; exact rPut_run pr 4 ww (by omega) (by omega) (by omega))
    have HT2 : Hid (T = (((t1 ++ t2) ++ usz) ++ upr)) := Hid.mk (by rw [HT.out]; simp [pseT, HTT.out.1, HTT.out.2, husz, hupr])
    clear husz hupr HT HTT
    go_upto_region 6 with fail
    refine wp_region3 (Below u4.heap.size u4) u4.heap.size
        ([] : List (Nat × Cont))
        [kv (.agg (SC 17 (adV true b1))), kv (.string t1), kv (.agg (SC 17 (adV true b2))), kv (.string t2), kv (.string (t1 ++ t2)), kv (.int .i64 (sz : Int)), kv (.int .u64 (sz : Int)), kv (.string usz), kv (.string ((t1 ++ t2) ++ usz)), kv (.int .i64 (pr : Int)), kv (.int .u64 (pr : Int)), kv (.string upr), kv (.string (((t1 ++ t2) ++ usz) ++ upr)), kv (.string (((t1 ++ t2) ++ usz) ++ upr))]
        [.none, .none, .none, .none, .none, .none, .none, .none, .none, .none, .none, .none, .none, .none]
        [some 46, some 47, some 48, some 49, some 50, some 51, some 52, some 53, some 54, some 55, some 56, some 57, some 58, some 8]
        [(4, .pointer (some ⟨g1, 0, none⟩)), (5, .pointer (some ⟨g2, 0, none⟩)), (2, .int .i64 (pr : Int)), (3, .int .i64 (sz : Int))]
        [[], [.slot 0], [], [.slot 2], [.slot 1, .slot 3], [], [.slot 5], [.slot 6], [.slot 4, .slot 7], [], [.slot 9], [.slot 10], [.slot 8, .slot 11], [.slot 12]]
        [.slot 13] [46, 47, 48, 49, 50, 51, 52, 53, 54, 55, 56, 57, 58, 8]
        rfl (by kernel_rfl) ⟨rfl, rfl, rfl, rfl, trivial⟩ ((Below.refl _ u4).drew) (Nat.le_refl _) trivial trivial (below_GcW (Nat.le_refl _))
        ⟨
          (fun Q aq ww own hS hBg fr kn => .inl ⟨trivial, fun K hK => wp_value (look_st rfl isAddr (H1.out ww hS) fr.1) (hK _ _ ⟨Touch.refl _ _, rfl⟩)⟩),
          (fun Q aq ww own hS hBg fr kn => .inl ⟨trivial, fun K hK => stepc enterW_By rfl (args1 kn.1) (HB1.out ww) (fun w' hb => hK _ _ ⟨touch_below hb, rfl⟩)⟩),
          (fun Q aq ww own hS hBg fr kn => .inl ⟨trivial, fun K hK => wp_value (look_st rfl isAddr (H2.out ww hS) fr.2.1) (hK _ _ ⟨Touch.refl _ _, rfl⟩)⟩),
          (fun Q aq ww own hS hBg fr kn => .inl ⟨trivial, fun K hK => stepc enterW_By rfl (args1 kn.1) (HB2.out ww) (fun w' hb => hK _ _ ⟨touch_below hb, rfl⟩)⟩),
          (fun Q aq ww own hS hBg fr kn => .inl ⟨trivial, fun K hK => wp_value (exec_catS rfl kn.1 kn.2.1 (by (try simp only [ByteArray.size_append]); omega)) (hK _ _ ⟨Touch.refl _ _, rfl⟩)⟩),
          (fun Q aq ww own hS hBg fr kn => .inl ⟨trivial, fun K hK => wp_value (exec_move rfl fr.2.2.2.1) (hK _ _ ⟨Touch.refl _ _, rfl⟩)⟩),
          (fun Q aq ww own hS hBg fr kn => .inl ⟨trivial, fun K hK => wp_value (exec_cvIU rfl kn.1 (by omega)) (hK _ _ ⟨Touch.refl _ _, rfl⟩)⟩),
          (fun Q aq ww own hS hBg fr kn => .inl ⟨trivial, fun K hK => stepc enterW_Pu rfl (args2 kn.1 rfl) (HUsz.out ww) (fun w' hb => hK _ _ ⟨touch_below hb, rfl⟩)⟩),
          (fun Q aq ww own hS hBg fr kn => .inl ⟨trivial, fun K hK => wp_value (exec_catS rfl kn.1 kn.2.1 (by (try simp only [ByteArray.size_append]); omega)) (hK _ _ ⟨Touch.refl _ _, rfl⟩)⟩),
          (fun Q aq ww own hS hBg fr kn => .inl ⟨trivial, fun K hK => wp_value (exec_move rfl fr.2.2.1) (hK _ _ ⟨Touch.refl _ _, rfl⟩)⟩),
          (fun Q aq ww own hS hBg fr kn => .inl ⟨trivial, fun K hK => wp_value (exec_cvIU rfl kn.1 (by omega)) (hK _ _ ⟨Touch.refl _ _, rfl⟩)⟩),
          (fun Q aq ww own hS hBg fr kn => .inl ⟨trivial, fun K hK => stepc enterW_Pu rfl (args2 kn.1 rfl) (HUpr.out ww) (fun w' hb => hK _ _ ⟨touch_below hb, rfl⟩)⟩),
          (fun Q aq ww own hS hBg fr kn => .inl ⟨trivial, fun K hK => wp_value (exec_catS rfl kn.1 kn.2.1 (by (try simp only [ByteArray.size_append]); omega)) (hK _ _ ⟨Touch.refl _ _, rfl⟩)⟩),
          (fun Q aq ww own hS hBg fr kn => .inl ⟨trivial, fun K hK => wp_value (exec_assign rfl kn.1) (hK _ _ ⟨Touch.refl _ _, rfl⟩)⟩),
          trivial⟩ ?_
    intro vs own u6 hB6 hsz6 kn inj
    have e8 : vs 8 = .string (((t1 ++ t2) ++ usz) ++ upr) := kn.1
    clear kn inj hsz6
    simp only [putAll, Act.put, List.setIfInBounds_toArray, List.set_cons_zero, List.set_cons_succ, e8]
    clear e8
    go_wp2_with fail
    go_ret
    exact ⟨by rw [HT2.out]; rfl, hBd.trans (hB6.mono hBd.size)⟩
end Go.Proofs.YtklgpmpmolphaabDoor
