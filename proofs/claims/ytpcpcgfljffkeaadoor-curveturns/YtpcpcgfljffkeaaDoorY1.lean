/-
  Own text. The law CurveTurns answers true at every input, walked over the translation.
-/
import Derived.Test.YtpcpcgfljffkeaaDoorJ5
namespace Go.Proofs.YtpcpcgfljffkeaaDoor
open Go.RowKit Go.Proofs
set_option maxHeartbeats 1000000 in
set_option maxRecDepth 100000 in
theorem turns_walk (a b u : Int) (w : World) (hP : PrimeAt w) (Na : N256 a) (Nb : N256 b) :
    Calls Tryd.prog 5 #[.agg (BA a), .agg (BA b), .agg (BA u)] w fun r w' => r = .returned (.bool true) ∧ Below w.heap.size w w' := by
  have hz := primeAt_pos hP
  have HP := Hid.mk hP
  clear hP
  go_enter Tryd.func5, Tryd.ntmps5
  go_wp2_with fail
  refine wp_gen (fun v0 => v0.heap[w.heap.size]? = some (.cells (BA a) 22 (0, 0)) ∧ v0.heap[w.heap.size + 1]? = some (.cells (BA b) 22 (0, 0)) ∧ v0.heap[w.heap.size + 1 + 1]? = some (.cells (BA u) 22 (0, 0)) ∧ Keep w v0)
    ⟨heap_a31 w _ _ _, heap_a32 w _ _ _, heap_a3 w _ _ _, keep_below hz ⟨Below.refl _ _, HP.out⟩ (by repeat first | exact Below.refl _ _ | refine Below.alloc ?_ (by simp <;> omega) _)⟩ ?_
  rintro v0 ⟨g0, g1, g2, hK⟩
  clear HP
  refine wp_region3 (Keep w) v0.heap.size
    [(w.heap.size, fixd (BA a) 22), ((w.heap.size + 1), fixd (BA b) 22), ((w.heap.size + 1 + 1), fixd (BA u) 22)]
    [kv (.agg (BA a)), kv (.agg (BA b)), kv (.agg (BA u)), kv (.agg (BA (tN b u))), kv (.agg (BA (tN a (tN b u)))), kv (.agg (BA b)), kv (.agg (BA a)), kv (.agg (BA u)), kv (.agg (BA (tN a u))), kv (.agg (BA (tN a (tN b u)))), kv (.bool true), kv (.bool true), kv (.bool true), kv (.bool true), kv (.bool true)]
    [.none, .none, .none, .none, .none, .none, .none, .none, .none, .none, .none, .none, .none, .none, .none]
    [some 7, some 8, some 9, some 10, some 11, some 12, some 13, some 14, some 15, some 16, some 17, some 18, some 19, some 20, some 6]
    [(3, .pointer (some ⟨w.heap.size, 0, none⟩)), (4, .pointer (some ⟨(w.heap.size + 1), 0, none⟩)), (5, .pointer (some ⟨(w.heap.size + 1 + 1), 0, none⟩))]
    [[.base 0 0], [.base 1 0], [.base 2 0], [.slot 1, .slot 2], [.slot 0, .slot 3], [.base 1 0], [.base 0 0], [.base 2 0], [.slot 6, .slot 7], [.slot 5, .slot 8], [.slot 4, .slot 9], [.slot 10], [.slot 11], [.slot 11, .slot 12], [.slot 13]]
    [.slot 14] [7, 8, 9, 10, 11, 12, 13, 14, 15, 16, 17, 18, 19, 20, 6]
    rfl (by kernel_rfl) ⟨rfl, rfl, rfl, trivial⟩ (keep_drew hK) (Nat.le_refl _) ⟨⟨heap_lt g0, obIn g0⟩, ⟨heap_lt g1, obIn g1⟩, ⟨heap_lt g2, obIn g2⟩, trivial⟩ ⟨⟨trivial, trivial, trivial⟩, ⟨trivial, trivial⟩, trivial, trivial⟩ (keep_G hz hK.1.size ⟨by omega, by omega, by omega, trivial⟩)
    ⟨
      -- 0
      (fun Q aq ww own hS hBg fr kn => .inl ⟨trivial, fun K hK => wp_value (lookb rfl fr.1 (obAt kn.1)) (hK _ _ ⟨Touch.refl _ _, rfl⟩)⟩),
      -- 1
      (fun Q aq ww own hS hBg fr kn => .inl ⟨trivial, fun K hK => wp_value (lookb rfl fr.2.1 (obAt kn.1)) (hK _ _ ⟨Touch.refl _ _, rfl⟩)⟩),
      -- 2
      (fun Q aq ww own hS hBg fr kn => .inl ⟨trivial, fun K hK => wp_value (lookb rfl fr.2.2.1 (obAt kn.1)) (hK _ _ ⟨Touch.refl _ _, rfl⟩)⟩),
      -- 3
      (fun Q aq ww own hS hBg fr kn => .inl ⟨trivial, fun K hK => stepc2 enterMult rfl kn.1 kn.2.1 (mult_any b u ww hS.2 Nb) (fun w' hb => hK _ _ ⟨touch_below hb, rfl⟩)⟩),
      -- 4
      (fun Q aq ww own hS hBg fr kn => .inl ⟨trivial, fun K hK => stepc2 enterMult rfl kn.1 kn.2.1 (mult_any a (tN b u) ww hS.2 Na) (fun w' hb => hK _ _ ⟨touch_below hb, rfl⟩)⟩),
      -- 5
      (fun Q aq ww own hS hBg fr kn => .inl ⟨trivial, fun K hK => wp_value (lookb rfl fr.2.1 (obAt kn.1)) (hK _ _ ⟨Touch.refl _ _, rfl⟩)⟩),
      -- 6
      (fun Q aq ww own hS hBg fr kn => .inl ⟨trivial, fun K hK => wp_value (lookb rfl fr.1 (obAt kn.1)) (hK _ _ ⟨Touch.refl _ _, rfl⟩)⟩),
      -- 7
      (fun Q aq ww own hS hBg fr kn => .inl ⟨trivial, fun K hK => wp_value (lookb rfl fr.2.2.1 (obAt kn.1)) (hK _ _ ⟨Touch.refl _ _, rfl⟩)⟩),
      -- 8
      (fun Q aq ww own hS hBg fr kn => .inl ⟨trivial, fun K hK => stepc2 enterMult rfl kn.1 kn.2.1 (mult_any a u ww hS.2 Na) (fun w' hb => hK _ _ ⟨touch_below hb, rfl⟩)⟩),
      -- 9
      (fun Q aq ww own hS hBg fr kn => .inl ⟨trivial, fun K hK => stepc2 enterMult rfl kn.1 kn.2.1 (mult_any b (tN a u) ww hS.2 Nb) (fun w' hb => hK _ _ ⟨touch_below hb, (congrArg (fun n => Value.agg (BA n)) (tN_turns b a u))⟩)⟩),
      -- 10
      (fun Q aq ww own hS hBg fr kn => .inl ⟨trivial, fun K hK => wp_value (eql_same _ _ _ rfl _ kn.1 kn.2.1) (hK _ _ ⟨Touch.refl _ _, rfl⟩)⟩),
      -- 11
      (fun Q aq ww own hS hBg fr kn => .inl ⟨trivial, fun K hK => wp_value (exec_move _ rfl) (hK _ _ ⟨Touch.refl _ _, kn.1⟩)⟩),
      -- 12
      (fun Q aq ww own hS hBg fr kn => .inl ⟨kn.1, fun K hK => stepc0 enterAwake2 rfl (awake2_any ww hS.2) (fun w' hb => hK _ _ ⟨touch_below hb, rfl⟩)⟩),
      -- 13
      (fun Q aq ww own hS hBg fr kn => .inl ⟨trivial, fun K hK => wp_value (exec_pick _ _ _ rfl kn.1) (hK _ _ ⟨Touch.refl _ _, kn.2.1⟩)⟩),
      -- 14
      (fun Q aq ww own hS hBg fr kn => .inl ⟨trivial, fun K hK => wp_value (exec_assign _ rfl) (hK _ _ ⟨Touch.refl _ _, kn.1⟩)⟩),
      trivial⟩ ?_
  intro vs own v1 hK1 hs1 kn inj
  have e6 : vs 6 = .bool true := kn.1
  clear kn inj
  simp only [putAll, Act.put, List.setIfInBounds_toArray, List.set_cons_zero, List.set_cons_succ, e6]
  go_wp2
  go_ret
  exact ⟨rfl, hK1.1⟩
end Go.Proofs.YtpcpcgfljffkeaaDoor
