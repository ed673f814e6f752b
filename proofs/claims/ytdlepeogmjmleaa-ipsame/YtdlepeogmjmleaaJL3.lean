/-
  Own text. IpSame: two packets are the same just if all their fields are.
-/
import Derived.Test.YtdlepeogmjmleaaJ10
namespace Go.Proofs.Ytdlepeogmjmleaa
open Go.RowKit Go.Proofs
set_option maxRecDepth 100000
theorem enL_Same (args : Array Value) (w : World) : (callFunc 19 args).run Try.prog w = .ok (.enter 19 args) w := by kernel_rfl
theorem enL_rSame (args : Array Value) (w : World) : (callFunc 12 args).run Try.prog w = .ok (.enter 12 args) w := by kernel_rfl
set_option maxHeartbeats 8000000 in
theorem same_walk (P Q : Pk) (v1 v2 : Value) (w : World) (h1 : ExAt w v1 P.exts) (h2 : ExAt w v2 Q.exts) (hP' : PkArg P) (hQ' : PkArg Q) : Calls Try.prog 5 #[.agg (SC 46 (pkV P v1)), .agg (SC 46 (pkV Q v2))] w fun e w' => e = .returned (.bool true) ∧ Below w.heap.size w w' := by
  have hP := hP'.len
  have hQ := hQ'.len
  have HCPQ : Hid (∀ ww, ExAt ww v1 P.exts → ExAt ww v2 Q.exts → Calls Try.prog 19 #[.agg (SC 46 (pkV P v1)), .agg (SC 46 (pkV Q v2))] ww fun e w' => e = .returned (.bool (samP P Q)) ∧ Below ww.heap.size ww w') := Hid.mk (fun ww x y => by
    have := Same_run P Q v1 v2 ww x y hP hQ
    exact this)
  have HDPQ : Hid (∀ ww, ExAt ww v1 P.exts → ExAt ww v2 Q.exts → Calls Try.prog 12 #[.agg (SC 46 (pkV P v1)), .agg (SC 46 (pkV Q v2))] ww fun e w' => e = .returned (.bool (samP P Q)) ∧ Below ww.heap.size ww w') := Hid.mk (fun ww x y => by
    have := rSame_run P Q v1 v2 ww x y hP hQ
    exact this)
  have HCQP : Hid (∀ ww, ExAt ww v2 Q.exts → ExAt ww v1 P.exts → Calls Try.prog 19 #[.agg (SC 46 (pkV Q v2)), .agg (SC 46 (pkV P v1))] ww fun e w' => e = .returned (.bool (samP Q P)) ∧ Below ww.heap.size ww w') := Hid.mk (fun ww x y => by
    have := Same_run Q P v2 v1 ww x y hQ hP
    exact this)
  have HDQP : Hid (∀ ww, ExAt ww v2 Q.exts → ExAt ww v1 P.exts → Calls Try.prog 12 #[.agg (SC 46 (pkV Q v2)), .agg (SC 46 (pkV P v1))] ww fun e w' => e = .returned (.bool (samP Q P)) ∧ Below ww.heap.size ww w') := Hid.mk (fun ww x y => by
    have := rSame_run Q P v2 v1 ww x y hQ hP
    exact this)
  have HCPP : Hid (∀ ww, ExAt ww v1 P.exts → ExAt ww v1 P.exts → Calls Try.prog 19 #[.agg (SC 46 (pkV P v1)), .agg (SC 46 (pkV P v1))] ww fun e w' => e = .returned (.bool true) ∧ Below ww.heap.size ww w') := Hid.mk (fun ww x y => by
    have := Same_run P P v1 v1 ww x y hP hP
    rw [sam_self] at this
    exact this)
  have hv1 := h1.one
  have hv2 := h2.one
  generalize samP P Q = S1 at *
  generalize samP Q P = S2 at *
  clear hP hQ hP' hQ'
  go_enter Try.func5, Try.ntmps5
  go_wp2_with (refine wl_box2P rfl rfl rfl rfl isPk isPk (by rfl) (fun _ => by rfl) ?_; intro g2 g3 u1 hg2 hne p1 q1 hB1; refine Hid.out ?_)
  refine Hid.mk ?_
  go_wp2_with (go_at_call 8; refine (awake_run _).mono ?_; rintro e u2 ⟨rfl, hB2⟩; refine Hid.out ?_)
  refine Hid.mk ?_
  have p2 := p1.kept hB2
  have q2 := q1.kept hB2
  have hBa := hB1.trans (hB2.mono hB1.size)
  have HX1 := Hid.mk (h1.kept hBa)
  have HX2 := Hid.mk (h2.kept hBa)
  clear p1 q1 hB1 hB2 h1 h2
  go_upto_region 2 with fail
  refine wp_region3 (Below u2.heap.size u2) u2.heap.size
      ([] : List (Nat × Cont))
      [kv (.bool true), kv (.bool true), kv (.agg (SC 46 (pkV P v1))), kv (.agg (SC 46 (pkV Q v2))), kv (.bool S1), kv (.agg (SC 46 (pkV P v1))), kv (.agg (SC 46 (pkV Q v2))), kv (.bool S1), kv (.bool true), kv (.bool true), kv (.bool true), kv (.agg (SC 46 (pkV Q v2))), kv (.agg (SC 46 (pkV P v1))), kv (.bool S2), kv (.agg (SC 46 (pkV Q v2))), kv (.agg (SC 46 (pkV P v1))), kv (.bool S2), kv (.bool true), kv (.bool true), kv (.bool true), kv (.agg (SC 46 (pkV P v1))), kv (.agg (SC 46 (pkV P v1))), kv (.bool true), kv (.bool true), kv (.bool true)]
      [.none, .none, .none, .none, .none, .none, .none, .none, .none, .none, .none, .none, .none, .none, .none, .none, .none, .none, .none, .none, .none, .none, .none, .none, .none]
      [some 7, some 8, some 9, some 10, some 11, some 12, some 13, some 14, some 15, some 16, some 17, some 18, some 19, some 20, some 21, some 22, some 23, some 24, some 25, some 26, some 27, some 28, some 29, some 30, some 4]
      [(5, .bool true), (2, .pointer (some ⟨g2, 0, none⟩)), (3, .pointer (some ⟨g3, 0, none⟩))]
      [[], [.slot 0], [.slot 1], [.slot 1], [.slot 1, .slot 2, .slot 3], [.slot 1], [.slot 1], [.slot 1, .slot 5, .slot 6], [.slot 1, .slot 4, .slot 7], [.slot 1, .slot 8], [.slot 9], [.slot 10], [.slot 10], [.slot 10, .slot 11, .slot 12], [.slot 10], [.slot 10], [.slot 10, .slot 14, .slot 15], [.slot 10, .slot 13, .slot 16], [.slot 10, .slot 17], [.slot 18], [.slot 19], [.slot 19], [.slot 19, .slot 20, .slot 21], [.slot 19, .slot 22], [.slot 23]]
      [.slot 24] [7, 8, 9, 10, 11, 12, 13, 14, 15, 16, 17, 18, 19, 20, 21, 22, 23, 24, 25, 26, 27, 28, 29, 30, 4]
      rfl (by kernel_rfl) ⟨rfl, rfl, rfl, trivial⟩ ((Below.refl _ u2).drew) (Nat.le_refl _) trivial trivial (below_GcW (Nat.le_refl _))
      ⟨
      (fun QQ aa ww own hS hBg fr kn => .inl ⟨trivial, fun K hK => wp_value (exec_move rfl fr.1) (hK _ _ ⟨Touch.refl _ _, rfl⟩)⟩),
      (fun QQ aa ww own hS hBg fr kn => .inl ⟨trivial, fun K hK => wp_value (exec_move rfl kn.1) (hK _ _ ⟨Touch.refl _ _, rfl⟩)⟩),
      (fun QQ aa ww own hS hBg fr kn => .inl ⟨kn.1, fun K hK => wp_value (look_st rfl isPk (SAt.kept p2 hS) fr.2.1) (hK _ _ ⟨Touch.refl _ _, rfl⟩)⟩),
      (fun QQ aa ww own hS hBg fr kn => .inl ⟨kn.1, fun K hK => wp_value (look_st rfl isPk (SAt.kept q2 hS) fr.2.2.1) (hK _ _ ⟨Touch.refl _ _, rfl⟩)⟩),
      (fun QQ aa ww own hS hBg fr kn => .inl ⟨kn.1, fun K hK => stepc enL_Same rfl (args2 kn.2.1 kn.2.2.1) (HCPQ.out ww (HX1.out.kept hS) (HX2.out.kept hS)) (fun w' hb => hK _ _ ⟨touch_below hb, rfl⟩)⟩),
      (fun QQ aa ww own hS hBg fr kn => .inl ⟨kn.1, fun K hK => wp_value (look_st rfl isPk (SAt.kept p2 hS) fr.2.1) (hK _ _ ⟨Touch.refl _ _, rfl⟩)⟩),
      (fun QQ aa ww own hS hBg fr kn => .inl ⟨kn.1, fun K hK => wp_value (look_st rfl isPk (SAt.kept q2 hS) fr.2.2.1) (hK _ _ ⟨Touch.refl _ _, rfl⟩)⟩),
      (fun QQ aa ww own hS hBg fr kn => .inl ⟨kn.1, fun K hK => stepc enL_rSame rfl (args2 kn.2.1 kn.2.2.1) (HDPQ.out ww (HX1.out.kept hS) (HX2.out.kept hS)) (fun w' hb => hK _ _ ⟨touch_below hb, rfl⟩)⟩),
      (fun QQ aa ww own hS hBg fr kn => .inl ⟨kn.1, fun K hK => wp_value (exec_eqBt (m := S1) (n := S1) rfl rfl kn.2.1 kn.2.2.1) (hK _ _ ⟨Touch.refl _ _, rfl⟩)⟩),
      (fun QQ aa ww own hS hBg fr kn => .inl ⟨trivial, fun K hK => wp_value (exec_pick (v := .bool true) rfl kn.1 kn.2.1) (hK _ _ ⟨Touch.refl _ _, rfl⟩)⟩),
      (fun QQ aa ww own hS hBg fr kn => .inl ⟨trivial, fun K hK => wp_value (exec_move rfl kn.1) (hK _ _ ⟨Touch.refl _ _, rfl⟩)⟩),
      (fun QQ aa ww own hS hBg fr kn => .inl ⟨kn.1, fun K hK => wp_value (look_st rfl isPk (SAt.kept q2 hS) fr.2.2.1) (hK _ _ ⟨Touch.refl _ _, rfl⟩)⟩),
      (fun QQ aa ww own hS hBg fr kn => .inl ⟨kn.1, fun K hK => wp_value (look_st rfl isPk (SAt.kept p2 hS) fr.2.1) (hK _ _ ⟨Touch.refl _ _, rfl⟩)⟩),
      (fun QQ aa ww own hS hBg fr kn => .inl ⟨kn.1, fun K hK => stepc enL_Same rfl (args2 kn.2.1 kn.2.2.1) (HCQP.out ww (HX2.out.kept hS) (HX1.out.kept hS)) (fun w' hb => hK _ _ ⟨touch_below hb, rfl⟩)⟩),
      (fun QQ aa ww own hS hBg fr kn => .inl ⟨kn.1, fun K hK => wp_value (look_st rfl isPk (SAt.kept q2 hS) fr.2.2.1) (hK _ _ ⟨Touch.refl _ _, rfl⟩)⟩),
      (fun QQ aa ww own hS hBg fr kn => .inl ⟨kn.1, fun K hK => wp_value (look_st rfl isPk (SAt.kept p2 hS) fr.2.1) (hK _ _ ⟨Touch.refl _ _, rfl⟩)⟩),
      (fun QQ aa ww own hS hBg fr kn => .inl ⟨kn.1, fun K hK => stepc enL_rSame rfl (args2 kn.2.1 kn.2.2.1) (HDQP.out ww (HX2.out.kept hS) (HX1.out.kept hS)) (fun w' hb => hK _ _ ⟨touch_below hb, rfl⟩)⟩),
      (fun QQ aa ww own hS hBg fr kn => .inl ⟨kn.1, fun K hK => wp_value (exec_eqBt (m := S2) (n := S2) rfl rfl kn.2.1 kn.2.2.1) (hK _ _ ⟨Touch.refl _ _, rfl⟩)⟩),
      (fun QQ aa ww own hS hBg fr kn => .inl ⟨trivial, fun K hK => wp_value (exec_pick (v := .bool true) rfl kn.1 kn.2.1) (hK _ _ ⟨Touch.refl _ _, rfl⟩)⟩),
      (fun QQ aa ww own hS hBg fr kn => .inl ⟨trivial, fun K hK => wp_value (exec_move rfl kn.1) (hK _ _ ⟨Touch.refl _ _, rfl⟩)⟩),
      (fun QQ aa ww own hS hBg fr kn => .inl ⟨kn.1, fun K hK => wp_value (look_st rfl isPk (SAt.kept p2 hS) fr.2.1) (hK _ _ ⟨Touch.refl _ _, rfl⟩)⟩),
      (fun QQ aa ww own hS hBg fr kn => .inl ⟨kn.1, fun K hK => wp_value (look_st rfl isPk (SAt.kept p2 hS) fr.2.1) (hK _ _ ⟨Touch.refl _ _, rfl⟩)⟩),
      (fun QQ aa ww own hS hBg fr kn => .inl ⟨kn.1, fun K hK => stepc enL_Same rfl (args2 kn.2.1 kn.2.2.1) (HCPP.out ww (HX1.out.kept hS) (HX1.out.kept hS)) (fun w' hb => hK _ _ ⟨touch_below hb, rfl⟩)⟩),
      (fun QQ aa ww own hS hBg fr kn => .inl ⟨trivial, fun K hK => wp_value (exec_pick (v := .bool true) rfl kn.1 kn.2.1) (hK _ _ ⟨Touch.refl _ _, rfl⟩)⟩),
      (fun QQ aa ww own hS hBg fr kn => .inl ⟨trivial, fun K hK => wp_value (exec_assign rfl kn.1) (hK _ _ ⟨Touch.refl _ _, rfl⟩)⟩),
      trivial⟩ ?_
  intro vs own u3 hB3 hsz kn inj
  have e4 : vs 4 = .bool true := kn.1
  clear kn inj hsz
  simp only [putAll, Act.put, List.setIfInBounds_toArray, List.set_cons_zero, List.set_cons_succ, e4]
  clear e4
  go_wp2_with fail
  go_ret
  exact ⟨rfl, hBa.trans (hB3.mono hBa.size)⟩
end Go.Proofs.Ytdlepeogmjmleaa
