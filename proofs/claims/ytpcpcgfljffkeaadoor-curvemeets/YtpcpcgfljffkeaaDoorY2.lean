/-
  Own text. The law CurveMeets answers true at every input, walked over the translation.
-/
import Derived.Test.YtpcpcgfljffkeaaDoorJ5
namespace Go.Proofs.YtpcpcgfljffkeaaDoor
open Go.RowKit Go.Proofs
set_option maxHeartbeats 1000000 in
set_option maxRecDepth 100000 in
theorem meets_walk (a b : Int) (w : World) (hP : PrimeAt w) (Na : N256 a) (Nb : N256 b) :
    Calls Tryd.prog 4 #[.agg (BA a), .agg (BA b)] w fun r w' => r = .returned (.bool true) ∧ Below w.heap.size w w' := by
  have hz := primeAt_pos hP
  have HP := Hid.mk hP
  clear hP
  go_enter Tryd.func4, Tryd.ntmps4
  go_wp2_with fail
  refine wp_gen (fun v0 => v0.heap[w.heap.size]? = some (.cells (BA a) 22 (0, 0)) ∧ v0.heap[w.heap.size + 1]? = some (.cells (BA b) 22 (0, 0)) ∧ Keep w v0)
    ⟨heap_alloc2_old w _ _, heap_alloc2_new w _ _, keep_below hz ⟨Below.refl _ _, HP.out⟩ (by repeat first | exact Below.refl _ _ | refine Below.alloc ?_ (by simp <;> omega) _)⟩ ?_
  rintro v0 ⟨g0, g1, hK⟩
  clear HP
  refine wp_region3 (Keep w) v0.heap.size
    [(w.heap.size, fixd (BA a) 22), ((w.heap.size + 1), fixd (BA b) 22)]
    [kv (.agg (BA a)), kv (.agg (BA b)), kv (.agg (BA (tN b 9))), kv (.tuple #[.agg (BA (tN a (tN b 9))), .bool true]), kv (.tuple #[.agg (BA (tN a (tN b 9))), .bool true]), kv (.agg (BA (tN a (tN b 9)))), kv (.bool true), kp (BA 0) 22 8 (BA (tN a (tN b 9))), .val fun _ => True, kv (.bool true)]
    [.none, .none, .none, .none, .none, .none, .none, .none, .own 7 1, .none]
    [some 10, some 11, some 12, some 13, some 9, some 14, some 15, some 5, none, some 6]
    [(2, .pointer (some ⟨w.heap.size, 0, none⟩)), (3, .pointer (some ⟨(w.heap.size + 1), 0, none⟩))]
    [[.base 0 0], [.base 1 0], [.slot 1], [.slot 0, .slot 2], [.slot 3], [.slot 4], [.slot 4], [], [.slot 7, .cont 7 0, .slot 5], [.slot 6]]
    [.slot 7, .cont 7 1, .slot 9, .base 0 0, .base 1 0] [10, 11, 12, 13, 9, 14, 15, 5, 6]
    rfl (by kernel_rfl) ⟨rfl, rfl, trivial⟩ (keep_drew hK) (Nat.le_refl _) ⟨⟨heap_lt g0, obIn g0⟩, ⟨heap_lt g1, obIn g1⟩, trivial⟩ ⟨⟨trivial, trivial⟩, trivial, trivial⟩ (keep_G hz hK.1.size ⟨by omega, by omega, trivial⟩)
    ⟨
      -- 0
      (fun Q aq ww own hS hBg fr kn => .inl ⟨trivial, fun K hK => wp_value (lookb rfl fr.1 (obAt kn.1)) (hK _ _ ⟨Touch.refl _ _, rfl⟩)⟩),
      -- 1
      (fun Q aq ww own hS hBg fr kn => .inl ⟨trivial, fun K hK => wp_value (lookb rfl fr.2.1 (obAt kn.1)) (hK _ _ ⟨Touch.refl _ _, rfl⟩)⟩),
      -- 2
      (fun Q aq ww own hS hBg fr kn => .inl ⟨trivial, fun K hK => stepc1 enterPublic rfl kn.1 (public_any b ww hS.2 Nb) (fun w' hb => hK _ _ ⟨touch_below hb, rfl⟩)⟩),
      -- 3
      (fun Q aq ww own hS hBg fr kn => .inl ⟨trivial, fun K hK => stepc2 enterShared rfl kn.1 kn.2.1 (sharedp_any a b ww hS.2 Na) (fun w' hb => hK _ _ ⟨touch_below hb, rfl⟩)⟩),
      -- 4
      (fun Q aq ww own hS hBg fr kn => .inl ⟨trivial, fun K hK => wp_value (exec_move _ rfl) (hK _ _ ⟨Touch.refl _ _, kn.1⟩)⟩),
      -- 5
      (fun Q aq ww own hS hBg fr kn => .inl ⟨trivial, fun K hK => wp_value (exec_ext0 rfl kn.1) (hK _ _ ⟨Touch.refl _ _, rfl⟩)⟩),
      -- 6
      (fun Q aq ww own hS hBg fr kn => .inl ⟨trivial, fun K hK => wp_value (exec_ext1 rfl kn.1) (hK _ _ ⟨Touch.refl _ _, rfl⟩)⟩),
      -- 7
      (fun Q aq ww own hS hBg fr kn => .inl ⟨trivial, fun K hK => act_alloc zero_bytes rfl (fun w' hb hg => hK _ _ ⟨touch_below hb, _, Nat.le_refl _, rfl, obIn hg⟩)⟩),
      -- 8
      (fun Q aq ww own hS hBg fr kn => .inl ⟨trivial, fun K hK => actbytes rfl kn.1.1 kn.2.2.1 (obAt kn.2.1) (fun w2 hg ho => hK _ _ ⟨touch_only ho, obIn hg, trivial⟩)⟩),
      -- 9
      (fun Q aq ww own hS hBg fr kn => .inl ⟨trivial, fun K hK => wp_value (exec_assign _ rfl) (hK _ _ ⟨Touch.refl _ _, kn.1⟩)⟩),
      trivial⟩ ?_
  intro vs1 own v1 hK1 hs1 kn inj
  have e5 : vs1 5 = .pointer (some ⟨own 7, 0, none⟩) := kn.1.1
  have l5 : v0.heap.size ≤ own 7 := kn.1.2.1
  have g5 := obAt kn.2.1
  have e6 : vs1 6 = .bool true := kn.2.2.1
  have g0_ := obAt kn.2.2.2.1
  have g1_ := obAt kn.2.2.2.2.1
  have hl1 := heap_lt g1
  clear kn inj g0 g1
  generalize own 7 = b5 at *
  simp only [putAll, Act.put, List.setIfInBounds_toArray, List.set_cons_zero, List.set_cons_succ, e5, e6]
  have hb5 : w.heap.size + 2 ≤ b5 := by omega
  clear e5 e6 l5 hl1 hK own hs1
  have g0 := g0_
  have g1 := g1_
  have hK := hK1
  clear g0_ g1_ hK1
  go_wp2_with fail
  refine wp_region3 (Keep w) v1.heap.size
    [(w.heap.size, fixd (BA a) 22), ((w.heap.size + 1), fixd (BA b) 22), (b5, fixd (BA (tN a (tN b 9))) 22)]
    [kv (.agg (BA b)), kv (.agg (BA a)), kv (.agg (BA (tN a 9))), kv (.tuple #[.agg (BA (tN a (tN b 9))), .bool true]), kv (.tuple #[.agg (BA (tN a (tN b 9))), .bool true]), kv (.agg (BA (tN a (tN b 9)))), kv (.bool true), kp (BA 0) 22 8 (BA (tN a (tN b 9))), .val fun _ => True, kv (.bool true)]
    [.none, .none, .none, .none, .none, .none, .none, .none, .own 7 1, .none]
    [some 17, some 18, some 19, some 20, some 16, some 21, some 22, some 7, none, some 8]
    [(2, .pointer (some ⟨w.heap.size, 0, none⟩)), (3, .pointer (some ⟨(w.heap.size + 1), 0, none⟩))]
    [[.base 1 0], [.base 0 0], [.slot 1], [.slot 0, .slot 2], [.slot 3], [.slot 4], [.slot 4], [], [.slot 7, .cont 7 0, .slot 5], [.slot 6]]
    [.slot 7, .cont 7 1, .slot 9, .base 0 0, .base 1 0, .base 2 0] [17, 18, 19, 20, 16, 21, 22, 7, 8]
    rfl (by kernel_rfl) ⟨rfl, rfl, trivial⟩ (keep_drew hK) (Nat.le_refl _) ⟨⟨heap_lt g0, obIn g0⟩, ⟨heap_lt g1, obIn g1⟩, ⟨heap_lt g5, obIn g5⟩, trivial⟩ ⟨⟨trivial, trivial, trivial⟩, ⟨trivial, trivial⟩, trivial, trivial⟩ (keep_G hz hK.1.size ⟨by omega, by omega, by omega, trivial⟩)
    ⟨
      -- 0
      (fun Q aq ww own hS hBg fr kn => .inl ⟨trivial, fun K hK => wp_value (lookb rfl fr.2.1 (obAt kn.1)) (hK _ _ ⟨Touch.refl _ _, rfl⟩)⟩),
      -- 1
      (fun Q aq ww own hS hBg fr kn => .inl ⟨trivial, fun K hK => wp_value (lookb rfl fr.1 (obAt kn.1)) (hK _ _ ⟨Touch.refl _ _, rfl⟩)⟩),
      -- 2
      (fun Q aq ww own hS hBg fr kn => .inl ⟨trivial, fun K hK => stepc1 enterPublic rfl kn.1 (public_any a ww hS.2 Na) (fun w' hb => hK _ _ ⟨touch_below hb, rfl⟩)⟩),
      -- 3
      (fun Q aq ww own hS hBg fr kn => .inl ⟨trivial, fun K hK => stepc2 enterShared rfl kn.1 kn.2.1 (sharedp_any b a ww hS.2 Nb) (fun w' hb => hK _ _ ⟨touch_below hb, (congrArg (fun n => Value.tuple #[.agg (BA n), .bool true]) (tN_turns b a 9))⟩)⟩),
      -- 4
      (fun Q aq ww own hS hBg fr kn => .inl ⟨trivial, fun K hK => wp_value (exec_move _ rfl) (hK _ _ ⟨Touch.refl _ _, kn.1⟩)⟩),
      -- 5
      (fun Q aq ww own hS hBg fr kn => .inl ⟨trivial, fun K hK => wp_value (exec_ext0 rfl kn.1) (hK _ _ ⟨Touch.refl _ _, rfl⟩)⟩),
      -- 6
      (fun Q aq ww own hS hBg fr kn => .inl ⟨trivial, fun K hK => wp_value (exec_ext1 rfl kn.1) (hK _ _ ⟨Touch.refl _ _, rfl⟩)⟩),
      -- 7
      (fun Q aq ww own hS hBg fr kn => .inl ⟨trivial, fun K hK => act_alloc zero_bytes rfl (fun w' hb hg => hK _ _ ⟨touch_below hb, _, Nat.le_refl _, rfl, obIn hg⟩)⟩),
      -- 8
      (fun Q aq ww own hS hBg fr kn => .inl ⟨trivial, fun K hK => actbytes rfl kn.1.1 kn.2.2.1 (obAt kn.2.1) (fun w2 hg ho => hK _ _ ⟨touch_only ho, obIn hg, trivial⟩)⟩),
      -- 9
      (fun Q aq ww own hS hBg fr kn => .inl ⟨trivial, fun K hK => wp_value (exec_assign _ rfl) (hK _ _ ⟨Touch.refl _ _, kn.1⟩)⟩),
      trivial⟩ ?_
  intro vs2 own v2 hK2 hs2 kn inj
  have e7 : vs2 7 = .pointer (some ⟨own 7, 0, none⟩) := kn.1.1
  have g7 := obAt kn.2.1
  have e8 : vs2 8 = .bool true := kn.2.2.1
  have g5_ := obAt kn.2.2.2.2.2.1
  clear kn inj g0 g1 g5
  generalize own 7 = b7 at *
  simp only [putAll, Act.put, List.setIfInBounds_toArray, List.set_cons_zero, List.set_cons_succ, e7, e8]
  clear e7 e8 hK own hs2
  generalize hm : tN a (tN b 9) = m at *
  go_wp2_with (first | (refine ld_bytes rfl _ rfl b5 (BA m) rfl g5_ (BA_size _) ?_) | (refine ld_bytes rfl _ rfl b7 (BA m) rfl g7 (BA_size _) ?_) | (refine wl_value rfl (eql_same _ _ _ rfl m rfl rfl) ?_))
  refine (awake2_any _ hK2.2).mono ?_
  rintro e v3 ⟨rfl, hb3⟩
  go_wp2
  go_ret
  exact ⟨rfl, Below.trans hK2.1 (hb3.mono hK2.1.size)⟩
end Go.Proofs.YtpcpcgfljffkeaaDoor
