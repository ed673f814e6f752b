/-
  Own text. WireAddrs: each address is told as bytes and as a text, and what it is, as the document says.
-/
import Derived.Test.YtdlepeogmjmleaaDoorJ4
import Derived.Test.YtdlepeogmjmleaaDoorWDB
import Derived.Test.YtdlepeogmjmleaaDoorWDC
namespace Go.Proofs.YtdlepeogmjmleaaDoor
open Go.RowKit Go.Proofs
set_option maxRecDepth 100000
theorem en5_Valid (args : Array Value) (w : World) : (callFunc 7 args).run Tryd.prog w = .ok (.enter 7 args) w := by kernel_rfl
theorem en5_rValid (args : Array Value) (w : World) : (callFunc 8 args).run Tryd.prog w = .ok (.enter 8 args) w := by kernel_rfl
theorem en5_Bytes (args : Array Value) (w : World) : (callFunc 9 args).run Tryd.prog w = .ok (.enter 9 args) w := by kernel_rfl
theorem en5_rBytes (args : Array Value) (w : World) : (callFunc 10 args).run Tryd.prog w = .ok (.enter 10 args) w := by kernel_rfl
theorem en5_Group (args : Array Value) (w : World) : (callFunc 11 args).run Tryd.prog w = .ok (.enter 11 args) w := by kernel_rfl
theorem en5_rGroup (args : Array Value) (w : World) : (callFunc 12 args).run Tryd.prog w = .ok (.enter 12 args) w := by kernel_rfl
theorem en5_None (args : Array Value) (w : World) : (callFunc 13 args).run Tryd.prog w = .ok (.enter 13 args) w := by kernel_rfl
theorem en5_rNone (args : Array Value) (w : World) : (callFunc 14 args).run Tryd.prog w = .ok (.enter 14 args) w := by kernel_rfl
theorem en5_V4 (args : Array Value) (w : World) : (callFunc 15 args).run Tryd.prog w = .ok (.enter 15 args) w := by kernel_rfl
theorem en5_rV4 (args : Array Value) (w : World) : (callFunc 16 args).run Tryd.prog w = .ok (.enter 16 args) w := by kernel_rfl
section
variable {a : Act} {o : Oper} {w : World} {x y : Operand}
theorem exec_eqT5 {s t : ByteArray} (h : s = t) (ho : o.op = .binOp .eql 9 x y 9) (hx : a.eval x = .string s) (hy : a.eval y = .string t) : (execOp a.eval o).run Tryd.prog w = .ok (.value (.bool true)) w := by
  have := exec_eqSd (w := w) ho hx hy
  rwa [decide_eq_true h] at this
theorem exec_eqB5 {m n : Bool} (h : m = n) (ho : o.op = .binOp .eql 4 x y 4) (hx : a.eval x = .bool m) (hy : a.eval y = .bool n) : (execOp a.eval o).run Tryd.prog w = .ok (.value (.bool true)) w := by
  subst h
  exact exec_bin2 ho hx hy rfl (by simp [go_sem])
theorem exec_eqE5 {m n : Int} (h : m = n) (ho : o.op = .binOp .eql 26 x y 26) (hx : a.eval x = .int .i64 m) (hy : a.eval y = .int .i64 n) : (execOp a.eval o).run Tryd.prog w = .ok (.value (.bool true)) w := by
  subst h
  exact exec_bin2 ho hx hy rfl (by simp [go_sem])
theorem exec_eqA5 {t : TypeId} (ho : o.op = .binOp .eql 24 x y t) {v : Bool} {b : Nat → Int} (hx : a.eval x = .agg (SC 17 (adV v b))) (hy : a.eval y = .agg (SC 17 (adV v b))) : (execOp a.eval o).run Tryd.prog w = .ok (.value (.bool true)) w := by
  have := exec_eqA (w := w) ho hx hy
  rwa [show eqAF v b v b = true from eqAF_iff.2 ⟨rfl, fun _ _ => rfl⟩] at this
end
/-- Both texts of an address. -/
theorem text_told (v : Bool) (b : Nat → Int) (hb : Byts 16 b) : ∃ TX ER, (∀ ww, Env ww → Calls Tryd.prog 5 #[.agg (SC 17 (adV v b))] ww fun e w' => e = .returned (.tuple #[.string TX, .int .i64 ER]) ∧ Below ww.heap.size ww w') ∧ ∀ ww, Env ww → Calls Tryd.prog 6 #[.agg (SC 17 (adV v b))] ww fun e w' => e = .returned (.tuple #[.string TX, .int .i64 ER]) ∧ Below ww.heap.size ww w' := by
  cases hv : validF v b with
  | false => exact ⟨_, _, fun ww _ => Text_no v b ww hv, fun ww _ => rText_no v b ww hv⟩
  | true =>
    cases v with
    | false => exact ⟨_, _, fun ww hE => Text_run false b ww hb hE hv, fun ww hE => rText_four b ww hb hE hv⟩
    | true => exact ⟨_, _, fun ww hE => Text_run true b ww hb hE hv, fun ww hE => rText_six b ww hb hE hv⟩
set_option maxHeartbeats 16000000 in
theorem addrs_walk (v : Bool) (b : Nat → Int) (w : World) (hb : Byts 16 b) (hE : Env w) : Calls Tryd.prog 3 #[.agg (SC 17 (adV v b))] w fun e w' => e = .returned (.bool true) ∧ Below w.heap.size w w' := by
  obtain ⟨TX, ER, ht1, ht2⟩ := text_told v b hb
  have HT1 := Hid.mk ht1
  have HT2 := Hid.mk ht2
  have HValid : Hid (∀ ww, Calls Tryd.prog 7 #[.agg (SC 17 (adV v b))] ww fun e w' => e = .returned (.bool (validF v b)) ∧ Below ww.heap.size ww w') := Hid.mk (fun ww => Valid_run v b ww)
  have HBytes : Hid (∀ ww, Calls Tryd.prog 9 #[.agg (SC 17 (adV v b))] ww fun e w' => e = .returned (.string (bytT v b)) ∧ Below ww.heap.size ww w') := Hid.mk (fun ww => Bytes_run v b ww hb)
  have HGroup : Hid (∀ ww, Calls Tryd.prog 11 #[.agg (SC 17 (adV v b))] ww fun e w' => e = .returned (.bool (groupF v b)) ∧ Below ww.heap.size ww w') := Hid.mk (fun ww => Group_run v b ww)
  have HNone : Hid (∀ ww, Calls Tryd.prog 13 #[.agg (SC 17 (adV v b))] ww fun e w' => e = .returned (.bool (noneF b)) ∧ Below ww.heap.size ww w') := Hid.mk (fun ww => None_run v b ww)
  have HV4 : Hid (∀ ww, Calls Tryd.prog 15 #[.int .u8 (b 0), .int .u8 (b 1), .int .u8 (b 2), .int .u8 (b 3)] ww fun e w' => e = .returned (.agg (SC 17 (adV false (v4B (b 0) (b 1) (b 2) (b 3))))) ∧ Below ww.heap.size ww w') := Hid.mk (fun ww => V4_run (b 0) (b 1) (b 2) (b 3) ww)
  have HrValid : Hid (∀ ww, Calls Tryd.prog 8 #[.agg (SC 17 (adV v b))] ww fun e w' => e = .returned (.bool (validF v b)) ∧ Below ww.heap.size ww w') := Hid.mk (fun ww => rValid_run v b ww)
  have HrBytes : Hid (∀ ww, Calls Tryd.prog 10 #[.agg (SC 17 (adV v b))] ww fun e w' => e = .returned (.string (bytT v b)) ∧ Below ww.heap.size ww w') := Hid.mk (fun ww => rBytes_run v b ww hb)
  have HrGroup : Hid (∀ ww, Calls Tryd.prog 12 #[.agg (SC 17 (adV v b))] ww fun e w' => e = .returned (.bool (groupF v b)) ∧ Below ww.heap.size ww w') := Hid.mk (fun ww => rGroup_run v b ww)
  have HrNone : Hid (∀ ww, Calls Tryd.prog 14 #[.agg (SC 17 (adV v b))] ww fun e w' => e = .returned (.bool (noneF b)) ∧ Below ww.heap.size ww w') := Hid.mk (fun ww => rNone_run v b ww)
  have HrV4 : Hid (∀ ww, Calls Tryd.prog 16 #[.int .u8 (b 0), .int .u8 (b 1), .int .u8 (b 2), .int .u8 (b 3)] ww fun e w' => e = .returned (.agg (SC 17 (adV false (v4B (b 0) (b 1) (b 2) (b 3))))) ∧ Below ww.heap.size ww w') := Hid.mk (fun ww => rV4_run (b 0) (b 1) (b 2) (b 3) ww)
  clear ht1 ht2 hb
  generalize validF v b = VB at *
  generalize bytT v b = BB at *
  generalize groupF v b = GB at *
  generalize noneF b = NB at *
  generalize v4B (b 0) (b 1) (b 2) (b 3) = V4 at *
  go_enter Tryd.func3, Tryd.ntmps3
  go_wp2_with (refine wl_boxO rfl rfl isAddr (by rfl) ?_; intro g u1 hg g1 hB1; refine Hid.out ?_)
  refine Hid.mk ?_
  have HE1 := Hid.mk (hE.kept hB1)
  go_wp2_with (go_at_call 4; refine (awake_run _ HE1.out).mono ?_; rintro e u2 ⟨rfl, hB2⟩; refine Hid.out ?_)
  refine Hid.mk ?_
  have g2 := SAt.kept g1 hB2
  have hBa := hB1.trans (hB2.mono hB1.size)
  have HE2 := Hid.mk (hE.kept hBa)
  clear g1 hB1 hB2 HE1
  go_wp2_with (first | (refine wl_value rfl (look_st rfl isAddr g2 (by rfl)) ?_) | (go_at_call 5; refine (HT1.out _ HE2.out).mono ?_; rintro e u3 ⟨rfl, hB3⟩; refine Hid.out ?_))
  refine Hid.mk ?_
  have g3 := SAt.kept g2 hB3
  have hBb := hBa.trans (hB3.mono hBa.size)
  have HE3 := Hid.mk (hE.kept hBb)
  clear g2 hBa hB3 HE2
  go_wp2_with (first | (refine wl_value rfl (look_st rfl isAddr g3 (by rfl)) ?_) | (go_at_call 6; refine (HT2.out _ HE3.out).mono ?_; rintro e u4 ⟨rfl, hB4⟩; refine Hid.out ?_))
  refine Hid.mk ?_
  have q := SAt.kept g3 hB4
  have hBc := hBb.trans (hB4.mono hBb.size)
  clear g3 hBb hB4 HE3 HT1 HT2
  go_upto_region 4 with fail
  refine wp_region3 (Below u4.heap.size u4) u4.heap.size
      ([] : List (Nat × Cont))
      (kv (.bool true) :: kv (.bool true) :: kv (.string TX) :: kv (.string TX) :: kv (.bool true) :: kv (.bool true) :: kv (.bool true) :: kv (.int .i64 ER) :: kv (.int .i64 ER) :: kv (.bool true) :: kv (.bool true) :: kv (.bool true) :: kv (.agg (SC 17 (adV v b))) :: kv (.bool VB) :: kv (.agg (SC 17 (adV v b))) :: kv (.bool VB) :: kv (.bool true) :: kv (.bool true) :: kv (.bool true) :: kv (.agg (SC 17 (adV v b))) :: kv (.string BB) :: kv (.agg (SC 17 (adV v b))) :: kv (.string BB) :: kv (.bool true) :: kv (.bool true) :: kv (.bool true) :: kv (.agg (SC 17 (adV v b))) :: kv (.bool GB) :: kv (.agg (SC 17 (adV v b))) :: kv (.bool GB) :: kv (.bool true) :: kv (.bool true) :: kv (.bool true) :: kv (.agg (SC 17 (adV v b))) :: kv (.bool NB) :: kv (.agg (SC 17 (adV v b))) :: kv (.bool NB) :: kv (.bool true) :: kv (.bool true) :: kv (.bool true) :: kv (.pointer (some ⟨g, 1, none⟩)) :: kv (.pointer (some ⟨g, 1, none⟩)) :: kv (.int .u8 (b 0)) :: kv (.pointer (some ⟨g, 1, none⟩)) :: kv (.pointer (some ⟨g, 2, none⟩)) :: kv (.int .u8 (b 1)) :: kv (.pointer (some ⟨g, 1, none⟩)) :: kv (.pointer (some ⟨g, 3, none⟩)) :: kv (.int .u8 (b 2)) :: kv (.pointer (some ⟨g, 1, none⟩)) :: kv (.pointer (some ⟨g, 4, none⟩)) :: kv (.int .u8 (b 3)) :: kv (.agg (SC 17 (adV false V4))) :: kv (.pointer (some ⟨g, 1, none⟩)) :: kv (.pointer (some ⟨g, 1, none⟩)) :: kv (.int .u8 (b 0)) :: kv (.pointer (some ⟨g, 1, none⟩)) :: kv (.pointer (some ⟨g, 2, none⟩)) :: kv (.int .u8 (b 1)) :: kv (.pointer (some ⟨g, 1, none⟩)) :: kv (.pointer (some ⟨g, 3, none⟩)) :: kv (.int .u8 (b 2)) :: kv (.pointer (some ⟨g, 1, none⟩)) :: kv (.pointer (some ⟨g, 4, none⟩)) :: kv (.int .u8 (b 3)) :: kv (.agg (SC 17 (adV false V4))) :: kv (.bool true) :: kv (.bool true) :: kv (.bool true) :: [])
      (.none :: .none :: .none :: .none :: .none :: .none :: .none :: .none :: .none :: .none :: .none :: .none :: .none :: .none :: .none :: .none :: .none :: .none :: .none :: .none :: .none :: .none :: .none :: .none :: .none :: .none :: .none :: .none :: .none :: .none :: .none :: .none :: .none :: .none :: .none :: .none :: .none :: .none :: .none :: .none :: .none :: .none :: .none :: .none :: .none :: .none :: .none :: .none :: .none :: .none :: .none :: .none :: .none :: .none :: .none :: .none :: .none :: .none :: .none :: .none :: .none :: .none :: .none :: .none :: .none :: .none :: .none :: .none :: .none :: [])
      (some 19 :: some 20 :: some 21 :: some 22 :: some 23 :: some 24 :: some 25 :: some 26 :: some 27 :: some 28 :: some 29 :: some 30 :: some 31 :: some 32 :: some 33 :: some 34 :: some 35 :: some 36 :: some 37 :: some 38 :: some 39 :: some 40 :: some 41 :: some 42 :: some 43 :: some 44 :: some 45 :: some 46 :: some 47 :: some 48 :: some 49 :: some 50 :: some 51 :: some 52 :: some 53 :: some 54 :: some 55 :: some 56 :: some 57 :: some 58 :: some 59 :: some 60 :: some 61 :: some 62 :: some 63 :: some 64 :: some 65 :: some 66 :: some 67 :: some 68 :: some 69 :: some 70 :: some 71 :: some 72 :: some 73 :: some 74 :: some 75 :: some 76 :: some 77 :: some 78 :: some 79 :: some 80 :: some 81 :: some 82 :: some 83 :: some 84 :: some 85 :: some 86 :: some 2 :: [])
      [(3, .bool true), (4, .string TX), (6, .string TX), (5, .int .i64 ER), (7, .int .i64 ER), (1, .pointer (some ⟨g, 0, none⟩))]
      ([] :: [.slot 0] :: [.slot 1] :: [.slot 1] :: [.slot 1, .slot 2, .slot 3] :: [.slot 1, .slot 4] :: [.slot 5] :: [.slot 6] :: [.slot 6] :: [.slot 6, .slot 7, .slot 8] :: [.slot 6, .slot 9] :: [.slot 10] :: [.slot 11] :: [.slot 11, .slot 12] :: [.slot 11] :: [.slot 11, .slot 14] :: [.slot 11, .slot 13, .slot 15] :: [.slot 11, .slot 16] :: [.slot 17] :: [.slot 18] :: [.slot 18, .slot 19] :: [.slot 18] :: [.slot 18, .slot 21] :: [.slot 18, .slot 20, .slot 22] :: [.slot 18, .slot 23] :: [.slot 24] :: [.slot 25] :: [.slot 25, .slot 26] :: [.slot 25] :: [.slot 25, .slot 28] :: [.slot 25, .slot 27, .slot 29] :: [.slot 25, .slot 30] :: [.slot 31] :: [.slot 32] :: [.slot 32, .slot 33] :: [.slot 32] :: [.slot 32, .slot 35] :: [.slot 32, .slot 34, .slot 36] :: [.slot 32, .slot 37] :: [.slot 38] :: [.slot 39] :: [.slot 39, .slot 40] :: [.slot 39, .slot 41] :: [.slot 39] :: [.slot 39, .slot 43] :: [.slot 39, .slot 44] :: [.slot 39] :: [.slot 39, .slot 46] :: [.slot 39, .slot 47] :: [.slot 39] :: [.slot 39, .slot 49] :: [.slot 39, .slot 50] :: [.slot 39, .slot 42, .slot 45, .slot 48, .slot 51] :: [.slot 39] :: [.slot 39, .slot 53] :: [.slot 39, .slot 54] :: [.slot 39] :: [.slot 39, .slot 56] :: [.slot 39, .slot 57] :: [.slot 39] :: [.slot 39, .slot 59] :: [.slot 39, .slot 60] :: [.slot 39] :: [.slot 39, .slot 62] :: [.slot 39, .slot 63] :: [.slot 39, .slot 55, .slot 58, .slot 61, .slot 64] :: [.slot 39, .slot 52, .slot 65] :: [.slot 39, .slot 66] :: [.slot 67] :: [])
      [.slot 68] (19 :: 20 :: 21 :: 22 :: 23 :: 24 :: 25 :: 26 :: 27 :: 28 :: 29 :: 30 :: 31 :: 32 :: 33 :: 34 :: 35 :: 36 :: 37 :: 38 :: 39 :: 40 :: 41 :: 42 :: 43 :: 44 :: 45 :: 46 :: 47 :: 48 :: 49 :: 50 :: 51 :: 52 :: 53 :: 54 :: 55 :: 56 :: 57 :: 58 :: 59 :: 60 :: 61 :: 62 :: 63 :: 64 :: 65 :: 66 :: 67 :: 68 :: 69 :: 70 :: 71 :: 72 :: 73 :: 74 :: 75 :: 76 :: 77 :: 78 :: 79 :: 80 :: 81 :: 82 :: 83 :: 84 :: 85 :: 86 :: 2 :: [])
      rfl (by kernel_rfl) ⟨rfl, rfl, rfl, rfl, rfl, rfl, trivial⟩ ((Below.refl _ u4).drew) (Nat.le_refl _) trivial trivial (below_GcW (Nat.le_refl _))
      ⟨
      (fun QQ aa ww own hS hBg fr kn => .inl ⟨trivial, fun K hK => wp_value (exec_move rfl fr.1) (hK _ _ ⟨Touch.refl _ _, rfl⟩)⟩),
      (fun QQ aa ww own hS hBg fr kn => .inl ⟨trivial, fun K hK => wp_value (exec_move rfl kn.1) (hK _ _ ⟨Touch.refl _ _, rfl⟩)⟩),
      (fun QQ aa ww own hS hBg fr kn => .inl ⟨kn.1, fun K hK => wp_value (exec_move rfl fr.2.1) (hK _ _ ⟨Touch.refl _ _, rfl⟩)⟩),
      (fun QQ aa ww own hS hBg fr kn => .inl ⟨kn.1, fun K hK => wp_value (exec_move rfl fr.2.2.1) (hK _ _ ⟨Touch.refl _ _, rfl⟩)⟩),
      (fun QQ aa ww own hS hBg fr kn => .inl ⟨kn.1, fun K hK => wp_value (exec_eqT5 (s := TX) (t := TX) rfl rfl kn.2.1 kn.2.2.1) (hK _ _ ⟨Touch.refl _ _, rfl⟩)⟩),
      (fun QQ aa ww own hS hBg fr kn => .inl ⟨trivial, fun K hK => wp_value (exec_pick (v := .bool true) rfl kn.1 kn.2.1) (hK _ _ ⟨Touch.refl _ _, rfl⟩)⟩),
      (fun QQ aa ww own hS hBg fr kn => .inl ⟨trivial, fun K hK => wp_value (exec_move rfl kn.1) (hK _ _ ⟨Touch.refl _ _, rfl⟩)⟩),
      (fun QQ aa ww own hS hBg fr kn => .inl ⟨kn.1, fun K hK => wp_value (exec_move rfl fr.2.2.2.1) (hK _ _ ⟨Touch.refl _ _, rfl⟩)⟩),
      (fun QQ aa ww own hS hBg fr kn => .inl ⟨kn.1, fun K hK => wp_value (exec_move rfl fr.2.2.2.2.1) (hK _ _ ⟨Touch.refl _ _, rfl⟩)⟩),
      (fun QQ aa ww own hS hBg fr kn => .inl ⟨kn.1, fun K hK => wp_value (exec_eqE5 (m := ER) (n := ER) rfl rfl kn.2.1 kn.2.2.1) (hK _ _ ⟨Touch.refl _ _, rfl⟩)⟩),
      (fun QQ aa ww own hS hBg fr kn => .inl ⟨trivial, fun K hK => wp_value (exec_pick (v := .bool true) rfl kn.1 kn.2.1) (hK _ _ ⟨Touch.refl _ _, rfl⟩)⟩),
      (fun QQ aa ww own hS hBg fr kn => .inl ⟨trivial, fun K hK => wp_value (exec_move rfl kn.1) (hK _ _ ⟨Touch.refl _ _, rfl⟩)⟩),
      (fun QQ aa ww own hS hBg fr kn => .inl ⟨kn.1, fun K hK => wp_value (look_st rfl isAddr (SAt.kept q hS) fr.2.2.2.2.2.1) (hK _ _ ⟨Touch.refl _ _, rfl⟩)⟩),
      (fun QQ aa ww own hS hBg fr kn => .inl ⟨kn.1, fun K hK => stepc en5_Valid rfl (args1 kn.2.1) (HValid.out ww) (fun w' hb => hK _ _ ⟨touch_below hb, rfl⟩)⟩),
      (fun QQ aa ww own hS hBg fr kn => .inl ⟨kn.1, fun K hK => wp_value (look_st rfl isAddr (SAt.kept q hS) fr.2.2.2.2.2.1) (hK _ _ ⟨Touch.refl _ _, rfl⟩)⟩),
      (fun QQ aa ww own hS hBg fr kn => .inl ⟨kn.1, fun K hK => stepc en5_rValid rfl (args1 kn.2.1) (HrValid.out ww) (fun w' hb => hK _ _ ⟨touch_below hb, rfl⟩)⟩),
      (fun QQ aa ww own hS hBg fr kn => .inl ⟨kn.1, fun K hK => wp_value (exec_eqB5 (m := VB) (n := VB) rfl rfl kn.2.1 kn.2.2.1) (hK _ _ ⟨Touch.refl _ _, rfl⟩)⟩),
      (fun QQ aa ww own hS hBg fr kn => .inl ⟨trivial, fun K hK => wp_value (exec_pick (v := .bool true) rfl kn.1 kn.2.1) (hK _ _ ⟨Touch.refl _ _, rfl⟩)⟩),
      (fun QQ aa ww own hS hBg fr kn => .inl ⟨trivial, fun K hK => wp_value (exec_move rfl kn.1) (hK _ _ ⟨Touch.refl _ _, rfl⟩)⟩),
      (fun QQ aa ww own hS hBg fr kn => .inl ⟨kn.1, fun K hK => wp_value (look_st rfl isAddr (SAt.kept q hS) fr.2.2.2.2.2.1) (hK _ _ ⟨Touch.refl _ _, rfl⟩)⟩),
      (fun QQ aa ww own hS hBg fr kn => .inl ⟨kn.1, fun K hK => stepc en5_Bytes rfl (args1 kn.2.1) (HBytes.out ww) (fun w' hb => hK _ _ ⟨touch_below hb, rfl⟩)⟩),
      (fun QQ aa ww own hS hBg fr kn => .inl ⟨kn.1, fun K hK => wp_value (look_st rfl isAddr (SAt.kept q hS) fr.2.2.2.2.2.1) (hK _ _ ⟨Touch.refl _ _, rfl⟩)⟩),
      (fun QQ aa ww own hS hBg fr kn => .inl ⟨kn.1, fun K hK => stepc en5_rBytes rfl (args1 kn.2.1) (HrBytes.out ww) (fun w' hb => hK _ _ ⟨touch_below hb, rfl⟩)⟩),
      (fun QQ aa ww own hS hBg fr kn => .inl ⟨kn.1, fun K hK => wp_value (exec_eqT5 (s := BB) (t := BB) rfl rfl kn.2.1 kn.2.2.1) (hK _ _ ⟨Touch.refl _ _, rfl⟩)⟩),
      (fun QQ aa ww own hS hBg fr kn => .inl ⟨trivial, fun K hK => wp_value (exec_pick (v := .bool true) rfl kn.1 kn.2.1) (hK _ _ ⟨Touch.refl _ _, rfl⟩)⟩),
      (fun QQ aa ww own hS hBg fr kn => .inl ⟨trivial, fun K hK => wp_value (exec_move rfl kn.1) (hK _ _ ⟨Touch.refl _ _, rfl⟩)⟩),
      (fun QQ aa ww own hS hBg fr kn => .inl ⟨kn.1, fun K hK => wp_value (look_st rfl isAddr (SAt.kept q hS) fr.2.2.2.2.2.1) (hK _ _ ⟨Touch.refl _ _, rfl⟩)⟩),
      (fun QQ aa ww own hS hBg fr kn => .inl ⟨kn.1, fun K hK => stepc en5_Group rfl (args1 kn.2.1) (HGroup.out ww) (fun w' hb => hK _ _ ⟨touch_below hb, rfl⟩)⟩),
      (fun QQ aa ww own hS hBg fr kn => .inl ⟨kn.1, fun K hK => wp_value (look_st rfl isAddr (SAt.kept q hS) fr.2.2.2.2.2.1) (hK _ _ ⟨Touch.refl _ _, rfl⟩)⟩),
      (fun QQ aa ww own hS hBg fr kn => .inl ⟨kn.1, fun K hK => stepc en5_rGroup rfl (args1 kn.2.1) (HrGroup.out ww) (fun w' hb => hK _ _ ⟨touch_below hb, rfl⟩)⟩),
      (fun QQ aa ww own hS hBg fr kn => .inl ⟨kn.1, fun K hK => wp_value (exec_eqB5 (m := GB) (n := GB) rfl rfl kn.2.1 kn.2.2.1) (hK _ _ ⟨Touch.refl _ _, rfl⟩)⟩),
      (fun QQ aa ww own hS hBg fr kn => .inl ⟨trivial, fun K hK => wp_value (exec_pick (v := .bool true) rfl kn.1 kn.2.1) (hK _ _ ⟨Touch.refl _ _, rfl⟩)⟩),
      (fun QQ aa ww own hS hBg fr kn => .inl ⟨trivial, fun K hK => wp_value (exec_move rfl kn.1) (hK _ _ ⟨Touch.refl _ _, rfl⟩)⟩),
      (fun QQ aa ww own hS hBg fr kn => .inl ⟨kn.1, fun K hK => wp_value (look_st rfl isAddr (SAt.kept q hS) fr.2.2.2.2.2.1) (hK _ _ ⟨Touch.refl _ _, rfl⟩)⟩),
      (fun QQ aa ww own hS hBg fr kn => .inl ⟨kn.1, fun K hK => stepc en5_None rfl (args1 kn.2.1) (HNone.out ww) (fun w' hb => hK _ _ ⟨touch_below hb, rfl⟩)⟩),
      (fun QQ aa ww own hS hBg fr kn => .inl ⟨kn.1, fun K hK => wp_value (look_st rfl isAddr (SAt.kept q hS) fr.2.2.2.2.2.1) (hK _ _ ⟨Touch.refl _ _, rfl⟩)⟩),
      (fun QQ aa ww own hS hBg fr kn => .inl ⟨kn.1, fun K hK => stepc en5_rNone rfl (args1 kn.2.1) (HrNone.out ww) (fun w' hb => hK _ _ ⟨touch_below hb, rfl⟩)⟩),
      (fun QQ aa ww own hS hBg fr kn => .inl ⟨kn.1, fun K hK => wp_value (exec_eqB5 (m := NB) (n := NB) rfl rfl kn.2.1 kn.2.2.1) (hK _ _ ⟨Touch.refl _ _, rfl⟩)⟩),
      (fun QQ aa ww own hS hBg fr kn => .inl ⟨trivial, fun K hK => wp_value (exec_pick (v := .bool true) rfl kn.1 kn.2.1) (hK _ _ ⟨Touch.refl _ _, rfl⟩)⟩),
      (fun QQ aa ww own hS hBg fr kn => .inl ⟨trivial, fun K hK => wp_value (exec_move rfl kn.1) (hK _ _ ⟨Touch.refl _ _, rfl⟩)⟩),
      (fun QQ aa ww own hS hBg fr kn => .inl ⟨kn.1, fun K hK => wp_value (exec_fadW1 rfl fr.2.2.2.2.2.1) (hK _ _ ⟨Touch.refl _ _, rfl⟩)⟩),
      (fun QQ aa ww own hS hBg fr kn => .inl ⟨kn.1, fun K hK => wp_value (exec_ixW16 (k := 0) rfl kn.2.1 rfl (by decide)) (hK _ _ ⟨Touch.refl _ _, rfl⟩)⟩),
      (fun QQ aa ww own hS hBg fr kn => .inl ⟨kn.1, fun K hK => wp_value (exec_ld rfl kn.2.1 (ldW8 (SAt.at (SAt.kept q hS) 1 (by decide)))) (hK _ _ ⟨Touch.refl _ _, rfl⟩)⟩),
      (fun QQ aa ww own hS hBg fr kn => .inl ⟨kn.1, fun K hK => wp_value (exec_fadW1 rfl fr.2.2.2.2.2.1) (hK _ _ ⟨Touch.refl _ _, rfl⟩)⟩),
      (fun QQ aa ww own hS hBg fr kn => .inl ⟨kn.1, fun K hK => wp_value (exec_ixW16 (k := 1) rfl kn.2.1 rfl (by decide)) (hK _ _ ⟨Touch.refl _ _, rfl⟩)⟩),
      (fun QQ aa ww own hS hBg fr kn => .inl ⟨kn.1, fun K hK => wp_value (exec_ld rfl kn.2.1 (ldW8 (SAt.at (SAt.kept q hS) 2 (by decide)))) (hK _ _ ⟨Touch.refl _ _, rfl⟩)⟩),
      (fun QQ aa ww own hS hBg fr kn => .inl ⟨kn.1, fun K hK => wp_value (exec_fadW1 rfl fr.2.2.2.2.2.1) (hK _ _ ⟨Touch.refl _ _, rfl⟩)⟩),
      (fun QQ aa ww own hS hBg fr kn => .inl ⟨kn.1, fun K hK => wp_value (exec_ixW16 (k := 2) rfl kn.2.1 rfl (by decide)) (hK _ _ ⟨Touch.refl _ _, rfl⟩)⟩),
      (fun QQ aa ww own hS hBg fr kn => .inl ⟨kn.1, fun K hK => wp_value (exec_ld rfl kn.2.1 (ldW8 (SAt.at (SAt.kept q hS) 3 (by decide)))) (hK _ _ ⟨Touch.refl _ _, rfl⟩)⟩),
      (fun QQ aa ww own hS hBg fr kn => .inl ⟨kn.1, fun K hK => wp_value (exec_fadW1 rfl fr.2.2.2.2.2.1) (hK _ _ ⟨Touch.refl _ _, rfl⟩)⟩),
      (fun QQ aa ww own hS hBg fr kn => .inl ⟨kn.1, fun K hK => wp_value (exec_ixW16 (k := 3) rfl kn.2.1 rfl (by decide)) (hK _ _ ⟨Touch.refl _ _, rfl⟩)⟩),
      (fun QQ aa ww own hS hBg fr kn => .inl ⟨kn.1, fun K hK => wp_value (exec_ld rfl kn.2.1 (ldW8 (SAt.at (SAt.kept q hS) 4 (by decide)))) (hK _ _ ⟨Touch.refl _ _, rfl⟩)⟩),
      (fun QQ aa ww own hS hBg fr kn => .inl ⟨kn.1, fun K hK => stepc en5_V4 rfl (args4 kn.2.1 kn.2.2.1 kn.2.2.2.1 kn.2.2.2.2.1) (HV4.out ww) (fun w' hb => hK _ _ ⟨touch_below hb, rfl⟩)⟩),
      (fun QQ aa ww own hS hBg fr kn => .inl ⟨kn.1, fun K hK => wp_value (exec_fadW1 rfl fr.2.2.2.2.2.1) (hK _ _ ⟨Touch.refl _ _, rfl⟩)⟩),
      (fun QQ aa ww own hS hBg fr kn => .inl ⟨kn.1, fun K hK => wp_value (exec_ixW16 (k := 0) rfl kn.2.1 rfl (by decide)) (hK _ _ ⟨Touch.refl _ _, rfl⟩)⟩),
      (fun QQ aa ww own hS hBg fr kn => .inl ⟨kn.1, fun K hK => wp_value (exec_ld rfl kn.2.1 (ldW8 (SAt.at (SAt.kept q hS) 1 (by decide)))) (hK _ _ ⟨Touch.refl _ _, rfl⟩)⟩),
      (fun QQ aa ww own hS hBg fr kn => .inl ⟨kn.1, fun K hK => wp_value (exec_fadW1 rfl fr.2.2.2.2.2.1) (hK _ _ ⟨Touch.refl _ _, rfl⟩)⟩),
      (fun QQ aa ww own hS hBg fr kn => .inl ⟨kn.1, fun K hK => wp_value (exec_ixW16 (k := 1) rfl kn.2.1 rfl (by decide)) (hK _ _ ⟨Touch.refl _ _, rfl⟩)⟩),
      (fun QQ aa ww own hS hBg fr kn => .inl ⟨kn.1, fun K hK => wp_value (exec_ld rfl kn.2.1 (ldW8 (SAt.at (SAt.kept q hS) 2 (by decide)))) (hK _ _ ⟨Touch.refl _ _, rfl⟩)⟩),
      (fun QQ aa ww own hS hBg fr kn => .inl ⟨kn.1, fun K hK => wp_value (exec_fadW1 rfl fr.2.2.2.2.2.1) (hK _ _ ⟨Touch.refl _ _, rfl⟩)⟩),
      (fun QQ aa ww own hS hBg fr kn => .inl ⟨kn.1, fun K hK => wp_value (exec_ixW16 (k := 2) rfl kn.2.1 rfl (by decide)) (hK _ _ ⟨Touch.refl _ _, rfl⟩)⟩),
      (fun QQ aa ww own hS hBg fr kn => .inl ⟨kn.1, fun K hK => wp_value (exec_ld rfl kn.2.1 (ldW8 (SAt.at (SAt.kept q hS) 3 (by decide)))) (hK _ _ ⟨Touch.refl _ _, rfl⟩)⟩),
      (fun QQ aa ww own hS hBg fr kn => .inl ⟨kn.1, fun K hK => wp_value (exec_fadW1 rfl fr.2.2.2.2.2.1) (hK _ _ ⟨Touch.refl _ _, rfl⟩)⟩),
      (fun QQ aa ww own hS hBg fr kn => .inl ⟨kn.1, fun K hK => wp_value (exec_ixW16 (k := 3) rfl kn.2.1 rfl (by decide)) (hK _ _ ⟨Touch.refl _ _, rfl⟩)⟩),
      (fun QQ aa ww own hS hBg fr kn => .inl ⟨kn.1, fun K hK => wp_value (exec_ld rfl kn.2.1 (ldW8 (SAt.at (SAt.kept q hS) 4 (by decide)))) (hK _ _ ⟨Touch.refl _ _, rfl⟩)⟩),
      (fun QQ aa ww own hS hBg fr kn => .inl ⟨kn.1, fun K hK => stepc en5_rV4 rfl (args4 kn.2.1 kn.2.2.1 kn.2.2.2.1 kn.2.2.2.2.1) (HrV4.out ww) (fun w' hb => hK _ _ ⟨touch_below hb, rfl⟩)⟩),
      (fun QQ aa ww own hS hBg fr kn => .inl ⟨kn.1, fun K hK => wp_value (exec_eqA5 rfl kn.2.1 kn.2.2.1) (hK _ _ ⟨Touch.refl _ _, rfl⟩)⟩),
      (fun QQ aa ww own hS hBg fr kn => .inl ⟨trivial, fun K hK => wp_value (exec_pick (v := .bool true) rfl kn.1 kn.2.1) (hK _ _ ⟨Touch.refl _ _, rfl⟩)⟩),
      (fun QQ aa ww own hS hBg fr kn => .inl ⟨trivial, fun K hK => wp_value (exec_assign rfl kn.1) (hK _ _ ⟨Touch.refl _ _, rfl⟩)⟩),
      trivial⟩ ?_
  intro vs own u5 hB5 hsz kn inj
  have e2 : vs 2 = .bool true := kn.1
  clear kn inj hsz
  simp only [putAll, Act.put, List.setIfInBounds_toArray, List.set_cons_zero, List.set_cons_succ, e2]
  clear e2
  go_wp2_with fail
  go_ret
  exact ⟨rfl, hBc.trans (hB5.mono hBc.size)⟩
end Go.Proofs.YtdlepeogmjmleaaDoor
