/-
  Own text. The walk of the law PolyTags.
-/
import Derived.Test.YtfbeclleeehaaaaN16
namespace Go.Proofs.Ytfbeclleeehaaaa
open Go.RowKit Go.Proofs
theorem enterTag (args : Array Value) (w : World) : (callFunc 8 args).run Try.prog w = .ok (.enter 8 args) w := by kernel_rfl
theorem enterRTag (args : Array Value) (w : World) : (callFunc 9 args).run Try.prog w = .ok (.enter 9 args) w := by kernel_rfl
theorem enterAwake (args : Array Value) (w : World) : (callFunc 10 args).run Try.prog w = .ok (.enter 10 args) w := by kernel_rfl
theorem enterJoined (args : Array Value) (w : World) : (callFunc 11 args).run Try.prog w = .ok (.enter 11 args) w := by kernel_rfl
theorem enterSum (args : Array Value) (w : World) : (callFunc 14 args).run Try.prog w = .ok (.enter 14 args) w := by kernel_rfl
set_option maxHeartbeats 4000000 in
set_option maxRecDepth 100000 in
theorem tags_walk (key : Nat → Int) (s : ByteArray) (w : World) (hk : Byts 32 key) (hs : s.size ≤ 140737488355328) : Calls Try.prog 3 #[.agg (WA .u8 32 key), .string s] w fun e w' => e = .returned (.bool true) ∧ Below w.heap.size w w' := by
  have g0 : ArrAt (w.alloc (.cells (WA .u8 32 key) 22)) w.heap.size .u8 22 32 key := heap_alloc_new w _
  have hB : Below w.heap.size w (w.alloc (.cells (WA .u8 32 key) 22)) := (Below.refl _ w).alloc (Nat.le_refl _) _
  have HK := Hid.mk hk
  have HS := Hid.mk hs
  have HT : Hid (∀ (ww : World) (b : Nat), ww.heap[b]? = some (.cells #[.string s] 9 (0, 0)) → Calls Try.prog 8 #[.agg (WA .u8 32 key), .slice (some ⟨b, 0, none⟩) 1 1] ww fun e w' => e = .returned (.agg (WA .u8 16 (digN (markN key (txt s) s.size)))) ∧ Below ww.heap.size ww w') := Hid.mk (fun ww b h => by
    have h1 := Tag_run key _ 1 (one1 s) ww hk (strs1 h) (by decide)
    rw [join1] at h1
    exact h1)
  clear hk hs
  go_enter Try.func3, Try.ntmps3
  go_wp2_with fail
  refine wp_gen (fun v => ArrAt v w.heap.size .u8 22 32 key ∧ Below w.heap.size w v) ⟨g0, hB⟩ ?_
  clear g0 hB
  rintro v0 ⟨g0, hB⟩
  refine wp_region3 (Below w.heap.size w) v0.heap.size
    [(w.heap.size, fixd (WA .u8 32 key) 22)]
    [kv (.agg (WA .u8 32 (key))), kv (.string s), ks 1 #[.string s] 9, kv (.agg (WA .u8 16 (digN (markN key (txt s) s.size)))), kv (.agg (WA .u8 32 (key))), kv (.string s), kv (.agg (WA .u8 16 (digN (markN key (txt s) s.size)))), kv (.bool true), kv (.bool true), kv (.bool true), kv (.bool true), kv (.bool true)]
    [.none, .none, .none, .none, .none, .none, .none, .none, .none, .none, .none, .none]
    [some 5, some 6, some 7, some 8, some 9, some 10, some 11, some 12, some 13, some 14, some 15, some 4]
    [(2, .pointer (some ⟨w.heap.size, 0, none⟩)), (1, .string s)]
    [[.base 0 0], [], [.slot 1], [.slot 0, .slot 2, .cont 2 0], [.base 0 0], [], [.slot 4, .slot 5], [.slot 3, .slot 6], [.slot 7], [.slot 8], [.slot 8, .slot 9], [.slot 10]]
    [.slot 11] [5, 6, 7, 8, 9, 10, 11, 12, 13, 14, 15, 4]
    rfl (by kernel_rfl) ⟨rfl, rfl, trivial⟩ (Below.drew hB) (Nat.le_refl _) ⟨⟨g0.lt, obIn g0⟩, trivial⟩ ⟨trivial, trivial⟩ (below_G hB.size ⟨by omega, trivial⟩)
    ⟨
      -- 0
      (fun Q aq ww own hS hBg fr kn => .inl ⟨trivial, fun K hK => wp_value (look_arr rfl isArr32 (obAt kn.1) fr.1) (hK _ _ ⟨Touch.refl _ _, rfl⟩)⟩),
      -- 1
      (fun Q aq ww own hS hBg fr kn => .inl ⟨trivial, fun K hK => wp_value (exec_move rfl fr.2.1) (hK _ _ ⟨Touch.refl _ _, rfl⟩)⟩),
      -- 2
      (fun Q aq ww own hS hBg fr kn => .inl ⟨trivial, fun K hK => act_bs1 rfl kn.1 (fun v hg hb => hK _ _ ⟨touch_below hb, _, Nat.le_refl _, rfl, obIn hg⟩)⟩),
      -- 3
      (fun Q aq ww own hS hBg fr kn => .inl ⟨trivial, fun K hK => stepc enterTag rfl (args2 kn.1 kn.2.1.1) (HT.out ww (own 2) (obAt kn.2.2.1)) (fun w' hb => hK _ _ ⟨touch_below hb, rfl⟩)⟩),
      -- 4
      (fun Q aq ww own hS hBg fr kn => .inl ⟨trivial, fun K hK => wp_value (look_arr rfl isArr32 (obAt kn.1) fr.1) (hK _ _ ⟨Touch.refl _ _, rfl⟩)⟩),
      -- 5
      (fun Q aq ww own hS hBg fr kn => .inl ⟨trivial, fun K hK => wp_value (exec_move rfl fr.2.1) (hK _ _ ⟨Touch.refl _ _, rfl⟩)⟩),
      -- 6
      (fun Q aq ww own hS hBg fr kn => .inl ⟨trivial, fun K hK => stepc enterRTag rfl (args2 kn.1 kn.2.1) (rTag_run key s ww HK.out HS.out) (fun w' hb => hK _ _ ⟨touch_below hb, rfl⟩)⟩),
      -- 7
      (fun Q aq ww own hS hBg fr kn => .inl ⟨trivial, fun K hK => wp_value (eql_WA rfl Try.underlying23 eqG16 kn.1 kn.2.1) (hK _ _ ⟨Touch.refl _ _, rfl⟩)⟩),
      -- 8
      (fun Q aq ww own hS hBg fr kn => .inl ⟨trivial, fun K hK => wp_value (exec_move rfl kn.1) (hK _ _ ⟨Touch.refl _ _, rfl⟩)⟩),
      -- 9
      (fun Q aq ww own hS hBg fr kn => .inl ⟨kn.1, fun K hK => stepc enterAwake rfl args0 (awake_run ww) (fun w' hb => hK _ _ ⟨touch_below hb, rfl⟩)⟩),
      -- 10
      (fun Q aq ww own hS hBg fr kn => .inl ⟨trivial, fun K hK => wp_value (exec_pick rfl kn.1 kn.2.1) (hK _ _ ⟨Touch.refl _ _, rfl⟩)⟩),
      -- 11
      (fun Q aq ww own hS hBg fr kn => .inl ⟨trivial, fun K hK => wp_value (exec_assign rfl kn.1) (hK _ _ ⟨Touch.refl _ _, rfl⟩)⟩),
      trivial⟩ ?_
  intro vs own v1 hB1 hs1 kn inj
  clear inj hs1 g0 hB
  have e4 : vs 4 = .bool true := kn.1
  clear kn
  simp only [putAll, Act.put, List.setIfInBounds_toArray, List.set_cons_zero, List.set_cons_succ]
  rw [e4]
  go_wp2_with fail
  go_ret
  exact ⟨rfl, hB1⟩
end Go.Proofs.Ytfbeclleeehaaaa
