/-
  Own text. The walk of the law AeadSame.
-/
import Derived.Test.YtfkgfojofdachaaJ6
namespace Go.Proofs.Ytfkgfojofdachaa
open Go.RowKit Go.Proofs
set_option maxRecDepth 100000
theorem exec_eqSd {a : Act} {o : Oper} {w : World} {x y : Operand} (ho : o.op = .binOp .eql 9 x y 9) {s t : ByteArray} (hx : a.eval x = .string s) (hy : a.eval y = .string t) : (execOp a.eval o).run Try.prog w = .ok (.value (.bool (decide (s = t)))) w := by
  by_cases e : s = t
  · subst e
    rw [decide_eq_true rfl]
    exact exec_eqS ho hx hy
  · rw [decide_eq_false e]
    exact exec_bin2 ho hx hy rfl (by simp [go_sem]; intro h; rw [ByteArray.toList_eq, ByteArray.toList_eq] at h; exact e (ByteArray.ext (Array.ext' h)))
theorem exec_eqB {a : Act} {o : Oper} {w : World} {x y : Operand} (ho : o.op = .binOp .eql 4 x y 4) {p : Bool} (hx : a.eval x = .bool p) (hy : a.eval y = .bool p) : (execOp a.eval o).run Try.prog w = .ok (.value (.bool true)) w := exec_bin2 ho hx hy rfl (by simp [go_sem])
theorem exec_eqE {a : Act} {o : Oper} {w : World} {x y : Operand} (ho : o.op = .binOp .eql 28 x y 28) {n : Int} (hx : a.eval x = .int .i64 n) (hy : a.eval y = .int .i64 n) : (execOp a.eval o).run Try.prog w = .ok (.value (.bool true)) w := exec_bin2 ho hx hy rfl (by simp [go_sem])
theorem eqG12 : Try.prog.eqGuardType Try.prog.depth 24 = false := by kernel_rfl
theorem enterSame (args : Array Value) (w : World) : (callFunc 19 args).run Try.prog w = .ok (.enter 19 args) w := by kernel_rfl
theorem enterRNonce (args : Array Value) (w : World) : (callFunc 20 args).run Try.prog w = .ok (.enter 20 args) w := by kernel_rfl
theorem same_self (a : ByteArray) (w : World) (h : a.size ≤ 1152921504606846976) : Calls Try.prog 19 #[.string a, .string a] w fun e w' => e = .returned (.bool true) ∧ Below w.heap.size w w' := by
  have h0 := Same_run a a w h
  rw [decide_eq_true rfl] at h0
  exact h0
set_option maxHeartbeats 8000000 in
theorem same_walk (a b : ByteArray) (n : Int) (w : World) (ha : a.size ≤ 1152921504606846976) (hn : 0 ≤ n ∧ n < 18446744073709551616) :
    Calls Try.prog 7 #[.string a, .string b, .int .u64 n] w fun e w' => e = .returned (.bool true) ∧ Below w.heap.size w w' := by
  have HA := Hid.mk ha
  have HN := Hid.mk hn
  go_enter Try.func7, Try.ntmps7
  go_wp2_with fail
  refine (Nonce_run n _).mono ?_
  rintro e u ⟨rfl, hB⟩
  have gn := fun o (ho : o = Obj.cells (WA .u8 12 fun _ => 0) 24 (0, 0)) => (by rw [ho]; exact heap_alloc_new u _ : ArrAt (u.alloc o) u.heap.size .u8 24 12 (fun _ => 0))
  have HBS := Hid.mk hB.size
  go_wp2_with (refine st_arr isArr12 (gn _ rfl) (by rfl) (by rfl) ?_; intro u2 g7 o7; refine Hid.out ?_)
  replace hB := (hB.alloc HBS.out _).trans (o7.below HBS.out)
  clear o7 gn
  have hz : w.heap.size ≤ u.heap.size := HBS.out
  clear HBS
  generalize u.heap.size = b7 at *
  refine Hid.mk ?_
  go_wp2_with fail
  refine wp_gen (fun v => ArrAt v b7 .u8 24 12 (tailN (digN n)) ∧ Below w.heap.size w v) ⟨g7, hB⟩ ?_
  clear g7 hB
  rintro v0 ⟨g7, hB⟩
  refine wp_region3 (Below w.heap.size w) v0.heap.size
    [(b7, fixd (WA .u8 12 (tailN (digN n))) 24)]
    [kv (.string a), kv (.string b), kv (.bool (decide (a = b))), kv (.string a), kv (.string b), kv (.bool (decide (a = b))), kv (.bool true), kv (.bool true), kv (.string a), kv (.string a), kv (.bool true), kv (.bool true), kv (.bool true), kv (.agg (WA .u8 12 (tailN (digN n)))), kv (.int .u64 n), kv (.agg (WA .u8 12 (tailN (digN n)))), kv (.bool true), kv (.bool true), kv (.bool true), kv (.bool true), kv (.bool true), kv (.bool true)]
    [.none, .none, .none, .none, .none, .none, .none, .none, .none, .none, .none, .none, .none, .none, .none, .none, .none, .none, .none, .none, .none, .none]
    [some 10, some 11, some 12, some 13, some 14, some 15, some 16, some 17, some 18, some 19, some 20, some 21, some 22, some 23, some 24, some 25, some 26, some 27, some 28, some 29, some 30, some 6]
    [(0, .string a), (1, .string b), (2, .int .u64 n), (7, .pointer (some ⟨b7, 0, none⟩))]
    [[], [], [.slot 0, .slot 1], [], [], [.slot 3, .slot 4], [.slot 2, .slot 5], [.slot 6], [.slot 7], [.slot 7], [.slot 7, .slot 8, .slot 9], [.slot 7, .slot 10], [.slot 11], [.slot 12, .base 0 0], [.slot 12], [.slot 12, .slot 14], [.slot 12, .slot 13, .slot 15], [.slot 12, .slot 16], [.slot 17], [.slot 18], [.slot 18, .slot 19], [.slot 20]]
    [.base 0 0, .slot 21] [10, 11, 12, 13, 14, 15, 16, 17, 18, 19, 20, 21, 22, 23, 24, 25, 26, 27, 28, 29, 30, 6]
    rfl (by kernel_rfl) ⟨rfl, rfl, rfl, rfl, trivial⟩ (Below.drew hB) (Nat.le_refl _) ⟨⟨g7.lt, obIn g7⟩, trivial⟩ ⟨trivial, trivial⟩ (below_G hB.size ⟨by omega, trivial⟩)
    ⟨
      -- 0
      (fun Q aq ww own hS hBg fr kn => .inl ⟨trivial, fun K hK => wp_value (exec_move rfl fr.1) (hK _ _ ⟨Touch.refl _ _, rfl⟩)⟩),
      -- 1
      (fun Q aq ww own hS hBg fr kn => .inl ⟨trivial, fun K hK => wp_value (exec_move rfl fr.2.1) (hK _ _ ⟨Touch.refl _ _, rfl⟩)⟩),
      -- 2
      (fun Q aq ww own hS hBg fr kn => .inl ⟨trivial, fun K hK => stepc enterSame rfl (args2 kn.1 kn.2.1) (Same_run a b ww HA.out) (fun w' hb => hK _ _ ⟨touch_below hb, rfl⟩)⟩),
      -- 3
      (fun Q aq ww own hS hBg fr kn => .inl ⟨trivial, fun K hK => wp_value (exec_move rfl fr.1) (hK _ _ ⟨Touch.refl _ _, rfl⟩)⟩),
      -- 4
      (fun Q aq ww own hS hBg fr kn => .inl ⟨trivial, fun K hK => wp_value (exec_move rfl fr.2.1) (hK _ _ ⟨Touch.refl _ _, rfl⟩)⟩),
      -- 5
      (fun Q aq ww own hS hBg fr kn => .inl ⟨trivial, fun K hK => wp_value (exec_eqSd rfl kn.1 kn.2.1) (hK _ _ ⟨Touch.refl _ _, rfl⟩)⟩),
      -- 6
      (fun Q aq ww own hS hBg fr kn => .inl ⟨trivial, fun K hK => wp_value (exec_eqB rfl kn.1 kn.2.1) (hK _ _ ⟨Touch.refl _ _, rfl⟩)⟩),
      -- 7
      (fun Q aq ww own hS hBg fr kn => .inl ⟨trivial, fun K hK => wp_value (exec_move rfl kn.1) (hK _ _ ⟨Touch.refl _ _, rfl⟩)⟩),
      -- 8
      (fun Q aq ww own hS hBg fr kn => .inl ⟨kn.1, fun K hK => wp_value (exec_move rfl fr.1) (hK _ _ ⟨Touch.refl _ _, rfl⟩)⟩),
      -- 9
      (fun Q aq ww own hS hBg fr kn => .inl ⟨kn.1, fun K hK => wp_value (exec_move rfl fr.1) (hK _ _ ⟨Touch.refl _ _, rfl⟩)⟩),
      -- 10
      (fun Q aq ww own hS hBg fr kn => .inl ⟨kn.1, fun K hK => stepc enterSame rfl (args2 kn.2.1 kn.2.2.1) (same_self a ww HA.out) (fun w' hb => hK _ _ ⟨touch_below hb, rfl⟩)⟩),
      -- 11
      (fun Q aq ww own hS hBg fr kn => .inl ⟨trivial, fun K hK => wp_value (exec_pick rfl kn.1 kn.2.1) (hK _ _ ⟨Touch.refl _ _, rfl⟩)⟩),
      -- 12
      (fun Q aq ww own hS hBg fr kn => .inl ⟨trivial, fun K hK => wp_value (exec_move rfl kn.1) (hK _ _ ⟨Touch.refl _ _, rfl⟩)⟩),
      -- 13
      (fun Q aq ww own hS hBg fr kn => .inl ⟨kn.1, fun K hK => wp_value (look_arr rfl isArr12 (obAt kn.2.1) fr.2.2.2.1) (hK _ _ ⟨Touch.refl _ _, rfl⟩)⟩),
      -- 14
      (fun Q aq ww own hS hBg fr kn => .inl ⟨kn.1, fun K hK => wp_value (exec_move rfl fr.2.2.1) (hK _ _ ⟨Touch.refl _ _, rfl⟩)⟩),
      -- 15
      (fun Q aq ww own hS hBg fr kn => .inl ⟨kn.1, fun K hK => stepc enterRNonce rfl (args1 kn.2.1) (rNonce_run n ww HN.out) (fun w' hb => hK _ _ ⟨touch_below hb, rfl⟩)⟩),
      -- 16
      (fun Q aq ww own hS hBg fr kn => .inl ⟨kn.1, fun K hK => wp_value (eql_WA rfl Try.underlying24 eqG12 kn.2.1 kn.2.2.1) (hK _ _ ⟨Touch.refl _ _, rfl⟩)⟩),
      -- 17
      (fun Q aq ww own hS hBg fr kn => .inl ⟨trivial, fun K hK => wp_value (exec_pick rfl kn.1 kn.2.1) (hK _ _ ⟨Touch.refl _ _, rfl⟩)⟩),
      -- 18
      (fun Q aq ww own hS hBg fr kn => .inl ⟨trivial, fun K hK => wp_value (exec_move rfl kn.1) (hK _ _ ⟨Touch.refl _ _, rfl⟩)⟩),
      -- 19
      (fun Q aq ww own hS hBg fr kn => .inl ⟨kn.1, fun K hK => stepc enterAwake rfl (args0) (awake_run ww) (fun w' hb => hK _ _ ⟨touch_below hb, rfl⟩)⟩),
      -- 20
      (fun Q aq ww own hS hBg fr kn => .inl ⟨trivial, fun K hK => wp_value (exec_pick rfl kn.1 kn.2.1) (hK _ _ ⟨Touch.refl _ _, rfl⟩)⟩),
      -- 21
      (fun Q aq ww own hS hBg fr kn => .inl ⟨trivial, fun K hK => wp_value (exec_assign rfl kn.1) (hK _ _ ⟨Touch.refl _ _, rfl⟩)⟩),
      trivial⟩ ?_
  intro vs own v1 hB1 hs1 kn inj
  clear inj g7 hB
  have g7 : ArrAt v1 b7 .u8 24 12 (tailN (digN n)) := obAt kn.1
  have e6 : vs 6 = .bool true := kn.2.1
  have hB := hB1
  clear kn hB1 hs1
  simp only [putAll, Act.put, List.setIfInBounds_toArray, List.set_cons_zero, List.set_cons_succ, e6]
  go_wp2_with fail
  go_ret
  exact ⟨rfl, hB⟩
theorem same_lift (a : ByteArray) (ha : a.data.toList.length ≤ reachBytes) (b : ByteArray) (_hb : b.data.toList.length ≤ reachBytes) (n : Int) (hn : (Lit.int .u64 n).wf = true) (w : World) :
    Calls Try.prog 7 #[.string a, .string b, .int .u64 n] w fun e w' => e = .returned (.bool true) ∧ Below w.heap.size w w' :=
  same_walk a b n w (Nat.le_trans (reach_size ha) (by decide)) (by have := bounds_u64 hn; omega)
end Go.Proofs.Ytfkgfojofdachaa
