/-
  Own text. The law CurveTimes answers true at every input, walked over the translation.
-/
import Derived.Test.YtpcpcgfljffkeaaDoorJ5
namespace Go.Proofs.YtpcpcgfljffkeaaDoor
open Go.RowKit Go.Proofs
theorem enterRClamp (args : Array Value) (w : World) : (callFunc 11 args).run Tryd.prog w = .ok (.enter 11 args) w := by kernel_rfl
theorem enterRPublic (args : Array Value) (w : World) : (callFunc 13 args).run Tryd.prog w = .ok (.enter 13 args) w := by kernel_rfl
theorem eql_bool {a : Act} {o : Oper} {w : World} (x y : Operand) (ho : o.op = .binOp .eql 4 x y 4) (b : Bool) (hx : a.eval x = .bool b) (hy : a.eval y = .bool b) : (execOp a.eval o).run Tryd.prog w = .ok (.value (.bool true)) w := by
  unfold execOp
  simp only [ho, hx, hy]
  simp [go_sem]
set_option maxHeartbeats 1000000 in
set_option maxRecDepth 100000 in
theorem times_walk (k u : Int) (w : World) (hP : PrimeAt w) (Nk : N256 k) :
    Calls Tryd.prog 3 #[.agg (BA k), .agg (BA u)] w fun r w' => r = .returned (.bool true) ∧ Below w.heap.size w w' := by
  have hz := primeAt_pos hP
  have HP := Hid.mk hP
  have NK := Hid.mk Nk
  clear hP
  obtain ⟨s, hs⟩ : ∃ s, tN k u = s := ⟨_, rfl⟩
  obtain ⟨ok, ho⟩ : ∃ ok, (!(s == 0)) = ok := ⟨_, rfl⟩
  have HS := Hid.mk hs
  have HO := Hid.mk ho
  clear hs ho
  go_enter Tryd.func3, Tryd.ntmps3
  go_wp2_with (first | (refine ld_bytes rfl _ rfl w.heap.size (BA k) rfl (heap_alloc2_old w _ _) (BA_size _) ?_) | (refine ld_bytes rfl _ rfl (w.heap.size + 1) (BA u) rfl (heap_alloc2_new w _ _) (BA_size _) ?_))
  refine (shared_any k u _ (primeAt_below HP.out (B := w.heap.size) (by repeat first | exact Below.refl _ _ | refine Below.alloc ?_ (by simp <;> omega) _) hz) NK.out).mono ?_
  rintro e v1 ⟨rfl, hb1⟩
  rw [HS.out, HO.out]
  have g2 := bheap hb1 (heap_alloc2_old w _ _) (by simp <;> omega)
  have g3 := bheap hb1 (heap_alloc2_new w _ _) (by simp <;> omega)
  have hB : Below w.heap.size w v1 := by
    refine Below.trans ?_ (hb1.mono (by simp <;> omega))
    repeat first | exact Below.refl _ _ | refine Below.alloc ?_ (by simp <;> omega) _
  clear hb1
  go_wp2_with (first | (refine st_bytesS (g := v1.heap.size) (n := s) (by rfl) (by rfl) (heap_alloc_new v1 _) (by rfl) ?_; intro v2 g5 o2; refine Hid.out ?_))
  have hl := heap_lt g3
  replace g2 := (o2.block _ (Nat.ne_of_lt (heap_lt g2))).trans ((Below.heap_alloc v1 _ _ (heap_lt g2)).trans g2)
  replace g3 := (o2.block _ (Nat.ne_of_lt (heap_lt g3))).trans ((Below.heap_alloc v1 _ _ (heap_lt g3)).trans g3)
  replace hB := Below.trans (hB.alloc hB.size _) (Only.below (b := v1.heap.size) (B := w.heap.size) o2 hB.size)
  clear o2
  generalize v1.heap.size = b5 at *
  refine Hid.mk ?_
  go_wp2_with (first | (refine ld_bytes rfl _ rfl w.heap.size (BA k) rfl g2 (BA_size _) ?_) | (refine ld_bytes rfl _ rfl (w.heap.size + 1) (BA u) rfl g3 (BA_size _) ?_))
  refine (rshared_any k u _ NK.out).mono ?_
  rintro e v3 ⟨rfl, hb1⟩
  rw [HS.out, HO.out]
  replace g2 := bheap hb1 g2 (heap_lt g2)
  replace g3 := bheap hb1 g3 (heap_lt g3)
  replace g5 := bheap hb1 g5 (heap_lt g5)
  replace hB := Below.trans hB (hb1.mono hB.size)
  clear hb1
  go_wp2_with (first | (refine st_bytesS (g := v3.heap.size) (n := s) (by rfl) (by rfl) (heap_alloc_new v3 _) (by rfl) ?_; intro v4 g7 o2; refine Hid.out ?_))
  have hl3 := heap_lt g3
  replace g2 := (o2.block _ (Nat.ne_of_lt (heap_lt g2))).trans ((Below.heap_alloc v3 _ _ (heap_lt g2)).trans g2)
  replace g3 := (o2.block _ (Nat.ne_of_lt (heap_lt g3))).trans ((Below.heap_alloc v3 _ _ (heap_lt g3)).trans g3)
  replace g5 := (o2.block _ (Nat.ne_of_lt (heap_lt g5))).trans ((Below.heap_alloc v3 _ _ (heap_lt g5)).trans g5)
  replace hB := Below.trans (hB.alloc hB.size _) (Only.below (b := v3.heap.size) (B := w.heap.size) o2 hB.size)
  clear o2
  generalize v3.heap.size = b7 at *
  have hK : Keep w v4 := keep_below hz ⟨Below.refl _ _, HP.out⟩ hB
  clear hB HP
  refine Hid.mk ?_
  go_wp2_with fail
  refine wp_region3 (Keep w) v4.heap.size
    [(w.heap.size, fixd (BA k) 22), ((w.heap.size + 1), fixd (BA u) 22), (b5, fixd (BA s) 22), (b7, fixd (BA s) 22)]
    (kv (.agg (BA k)) :: kv (.agg (BA u)) :: kv (.agg (BA s)) :: kv (.agg (BA s)) :: kv (.bool true) :: kv (.bool true) :: kv (.agg (BA k)) :: kv (.agg (BA (clampN k))) :: kv (.agg (BA k)) :: kv (.agg (BA (clampN k))) :: kv (.bool true) :: kv (.bool true) :: kv (.bool true) :: kv (.agg (BA k)) :: kv (.agg (BA (tN k 9))) :: kv (.agg (BA k)) :: kv (.agg (BA (tN k 9))) :: kv (.bool true) :: kv (.bool true) :: kv (.bool true) :: kv (.agg (BA s)) :: kv (.agg (BA s)) :: kv (.bool true) :: kv (.bool true) :: kv (.bool true) :: kv (.bool ok) :: kv (.bool ok) :: kv (.bool true) :: kv (.bool true) :: kv (.bool true) :: kv (.bool true) :: kv (.bool true) :: kv (.bool true) :: [])
    (.none :: .none :: .none :: .none :: .none :: .none :: .none :: .none :: .none :: .none :: .none :: .none :: .none :: .none :: .none :: .none :: .none :: .none :: .none :: .none :: .none :: .none :: .none :: .none :: .none :: .none :: .none :: .none :: .none :: .none :: .none :: .none :: .none :: [])
    (some 21 :: some 22 :: some 23 :: some 24 :: some 25 :: some 26 :: some 27 :: some 28 :: some 29 :: some 30 :: some 31 :: some 32 :: some 33 :: some 34 :: some 35 :: some 36 :: some 37 :: some 38 :: some 39 :: some 40 :: some 41 :: some 42 :: some 43 :: some 44 :: some 45 :: some 46 :: some 47 :: some 48 :: some 49 :: some 50 :: some 51 :: some 52 :: some 4 :: [])
    [(2, .pointer (some ⟨w.heap.size, 0, none⟩)), (3, .pointer (some ⟨(w.heap.size + 1), 0, none⟩)), (5, .pointer (some ⟨b5, 0, none⟩)), (6, .bool ok), (7, .pointer (some ⟨b7, 0, none⟩)), (8, .bool ok)]
    ([.base 0 0] :: [.base 1 0] :: [.slot 0, .slot 1] :: [.base 3 0] :: [.slot 2, .slot 3] :: [.slot 4] :: [.slot 5, .base 0 0] :: [.slot 5, .slot 6] :: [.slot 5, .base 0 0] :: [.slot 5, .slot 8] :: [.slot 5, .slot 7, .slot 9] :: [.slot 5, .slot 10] :: [.slot 11] :: [.slot 12, .base 0 0] :: [.slot 12, .slot 13] :: [.slot 12, .base 0 0] :: [.slot 12, .slot 15] :: [.slot 12, .slot 14, .slot 16] :: [.slot 12, .slot 17] :: [.slot 18] :: [.slot 19, .base 2 0] :: [.slot 19, .base 3 0] :: [.slot 19, .slot 20, .slot 21] :: [.slot 19, .slot 22] :: [.slot 23] :: [.slot 24] :: [.slot 24] :: [.slot 24, .slot 25, .slot 26] :: [.slot 24, .slot 27] :: [.slot 28] :: [.slot 29] :: [.slot 29, .slot 30] :: [.slot 31] :: [])
    [.slot 32] (21 :: 22 :: 23 :: 24 :: 25 :: 26 :: 27 :: 28 :: 29 :: 30 :: 31 :: 32 :: 33 :: 34 :: 35 :: 36 :: 37 :: 38 :: 39 :: 40 :: 41 :: 42 :: 43 :: 44 :: 45 :: 46 :: 47 :: 48 :: 49 :: 50 :: 51 :: 52 :: 4 :: [])
    rfl (by kernel_rfl) ⟨rfl, rfl, rfl, rfl, rfl, rfl, trivial⟩ (keep_drew hK) (Nat.le_refl _) ⟨⟨heap_lt g2, obIn g2⟩, ⟨heap_lt g3, obIn g3⟩, ⟨heap_lt g5, obIn g5⟩, ⟨heap_lt g7, obIn g7⟩, trivial⟩ ⟨⟨trivial, trivial, trivial, trivial⟩, ⟨trivial, trivial, trivial⟩, ⟨trivial, trivial⟩, trivial, trivial⟩ (keep_G hz hK.1.size ⟨by omega, by omega, by omega, by omega, trivial⟩)
    ⟨
      -- 0
      (fun Q aq ww own hS hBg fr kn => .inl ⟨trivial, fun K hK => wp_value (lookb rfl fr.1 (obAt kn.1)) (hK _ _ ⟨Touch.refl _ _, rfl⟩)⟩),
      -- 1
      (fun Q aq ww own hS hBg fr kn => .inl ⟨trivial, fun K hK => wp_value (lookb rfl fr.2.1 (obAt kn.1)) (hK _ _ ⟨Touch.refl _ _, rfl⟩)⟩),
      -- 2
      (fun Q aq ww own hS hBg fr kn => .inl ⟨trivial, fun K hK => stepc2 enterMult rfl kn.1 kn.2.1 (mult_any k u ww hS.2 Nk) (fun w' hb => hK _ _ ⟨touch_below hb, (congrArg (fun n => Value.agg (BA n)) HS.out)⟩)⟩),
      -- 3
      (fun Q aq ww own hS hBg fr kn => .inl ⟨trivial, fun K hK => wp_value (lookb rfl fr.2.2.2.2.1 (obAt kn.1)) (hK _ _ ⟨Touch.refl _ _, rfl⟩)⟩),
      -- 4
      (fun Q aq ww own hS hBg fr kn => .inl ⟨trivial, fun K hK => wp_value (eql_same _ _ _ rfl _ kn.1 kn.2.1) (hK _ _ ⟨Touch.refl _ _, rfl⟩)⟩),
      -- 5
      (fun Q aq ww own hS hBg fr kn => .inl ⟨trivial, fun K hK => wp_value (exec_move _ rfl) (hK _ _ ⟨Touch.refl _ _, kn.1⟩)⟩),
      -- 6
      (fun Q aq ww own hS hBg fr kn => .inl ⟨kn.1, fun K hK => wp_value (lookb rfl fr.1 (obAt kn.2.1)) (hK _ _ ⟨Touch.refl _ _, rfl⟩)⟩),
      -- 7
      (fun Q aq ww own hS hBg fr kn => .inl ⟨kn.1, fun K hK => stepc1 enterClamp rfl kn.2.1 (clamp_any k ww Nk) (fun w' hb => hK _ _ ⟨touch_below hb, rfl⟩)⟩),
      -- 8
      (fun Q aq ww own hS hBg fr kn => .inl ⟨kn.1, fun K hK => wp_value (lookb rfl fr.1 (obAt kn.2.1)) (hK _ _ ⟨Touch.refl _ _, rfl⟩)⟩),
      -- 9
      (fun Q aq ww own hS hBg fr kn => .inl ⟨kn.1, fun K hK => stepc1 enterRClamp rfl kn.2.1 (rclamp_any k ww Nk) (fun w' hb => hK _ _ ⟨touch_below hb, rfl⟩)⟩),
      -- 10
      (fun Q aq ww own hS hBg fr kn => .inl ⟨kn.1, fun K hK => wp_value (eql_same _ _ _ rfl _ kn.2.1 kn.2.2.1) (hK _ _ ⟨Touch.refl _ _, rfl⟩)⟩),
      -- 11
      (fun Q aq ww own hS hBg fr kn => .inl ⟨trivial, fun K hK => wp_value (exec_pick _ _ _ rfl kn.1) (hK _ _ ⟨Touch.refl _ _, kn.2.1⟩)⟩),
      -- 12
      (fun Q aq ww own hS hBg fr kn => .inl ⟨trivial, fun K hK => wp_value (exec_move _ rfl) (hK _ _ ⟨Touch.refl _ _, kn.1⟩)⟩),
      -- 13
      (fun Q aq ww own hS hBg fr kn => .inl ⟨kn.1, fun K hK => wp_value (lookb rfl fr.1 (obAt kn.2.1)) (hK _ _ ⟨Touch.refl _ _, rfl⟩)⟩),
      -- 14
      (fun Q aq ww own hS hBg fr kn => .inl ⟨kn.1, fun K hK => stepc1 enterPublic rfl kn.2.1 (public_any k ww hS.2 Nk) (fun w' hb => hK _ _ ⟨touch_below hb, rfl⟩)⟩),
      -- 15
      (fun Q aq ww own hS hBg fr kn => .inl ⟨kn.1, fun K hK => wp_value (lookb rfl fr.1 (obAt kn.2.1)) (hK _ _ ⟨Touch.refl _ _, rfl⟩)⟩),
      -- 16
      (fun Q aq ww own hS hBg fr kn => .inl ⟨kn.1, fun K hK => stepc1 enterRPublic rfl kn.2.1 (rpublic_any k ww Nk) (fun w' hb => hK _ _ ⟨touch_below hb, rfl⟩)⟩),
      -- 17
      (fun Q aq ww own hS hBg fr kn => .inl ⟨kn.1, fun K hK => wp_value (eql_same _ _ _ rfl _ kn.2.1 kn.2.2.1) (hK _ _ ⟨Touch.refl _ _, rfl⟩)⟩),
      -- 18
      (fun Q aq ww own hS hBg fr kn => .inl ⟨trivial, fun K hK => wp_value (exec_pick _ _ _ rfl kn.1) (hK _ _ ⟨Touch.refl _ _, kn.2.1⟩)⟩),
      -- 19
      (fun Q aq ww own hS hBg fr kn => .inl ⟨trivial, fun K hK => wp_value (exec_move _ rfl) (hK _ _ ⟨Touch.refl _ _, kn.1⟩)⟩),
      -- 20
      (fun Q aq ww own hS hBg fr kn => .inl ⟨kn.1, fun K hK => wp_value (lookb rfl fr.2.2.1 (obAt kn.2.1)) (hK _ _ ⟨Touch.refl _ _, rfl⟩)⟩),
      -- 21
      (fun Q aq ww own hS hBg fr kn => .inl ⟨kn.1, fun K hK => wp_value (lookb rfl fr.2.2.2.2.1 (obAt kn.2.1)) (hK _ _ ⟨Touch.refl _ _, rfl⟩)⟩),
      -- 22
      (fun Q aq ww own hS hBg fr kn => .inl ⟨kn.1, fun K hK => wp_value (eql_same _ _ _ rfl _ kn.2.1 kn.2.2.1) (hK _ _ ⟨Touch.refl _ _, rfl⟩)⟩),
      -- 23
      (fun Q aq ww own hS hBg fr kn => .inl ⟨trivial, fun K hK => wp_value (exec_pick _ _ _ rfl kn.1) (hK _ _ ⟨Touch.refl _ _, kn.2.1⟩)⟩),
      -- 24
      (fun Q aq ww own hS hBg fr kn => .inl ⟨trivial, fun K hK => wp_value (exec_move _ rfl) (hK _ _ ⟨Touch.refl _ _, kn.1⟩)⟩),
      -- 25
      (fun Q aq ww own hS hBg fr kn => .inl ⟨kn.1, fun K hK => wp_value (exec_move _ rfl) (hK _ _ ⟨Touch.refl _ _, fr.2.2.2.1⟩)⟩),
      -- 26
      (fun Q aq ww own hS hBg fr kn => .inl ⟨kn.1, fun K hK => wp_value (exec_move _ rfl) (hK _ _ ⟨Touch.refl _ _, fr.2.2.2.2.2.1⟩)⟩),
      -- 27
      (fun Q aq ww own hS hBg fr kn => .inl ⟨kn.1, fun K hK => wp_value (eql_bool _ _ rfl _ kn.2.1 kn.2.2.1) (hK _ _ ⟨Touch.refl _ _, rfl⟩)⟩),
      -- 28
      (fun Q aq ww own hS hBg fr kn => .inl ⟨trivial, fun K hK => wp_value (exec_pick _ _ _ rfl kn.1) (hK _ _ ⟨Touch.refl _ _, kn.2.1⟩)⟩),
      -- 29
      (fun Q aq ww own hS hBg fr kn => .inl ⟨trivial, fun K hK => wp_value (exec_move _ rfl) (hK _ _ ⟨Touch.refl _ _, kn.1⟩)⟩),
      -- 30
      (fun Q aq ww own hS hBg fr kn => .inl ⟨kn.1, fun K hK => stepc0 enterAwake2 rfl (awake2_any ww hS.2) (fun w' hb => hK _ _ ⟨touch_below hb, rfl⟩)⟩),
      -- 31
      (fun Q aq ww own hS hBg fr kn => .inl ⟨trivial, fun K hK => wp_value (exec_pick _ _ _ rfl kn.1) (hK _ _ ⟨Touch.refl _ _, kn.2.1⟩)⟩),
      -- 32
      (fun Q aq ww own hS hBg fr kn => .inl ⟨trivial, fun K hK => wp_value (exec_assign _ rfl) (hK _ _ ⟨Touch.refl _ _, kn.1⟩)⟩),
      trivial⟩ ?_
  intro vs own v5 hK5 hs5 kn inj
  have e4 : vs 4 = .bool true := kn.1
  clear kn inj
  simp only [putAll, Act.put, List.setIfInBounds_toArray, List.set_cons_zero, List.set_cons_succ, e4]
  go_wp2
  go_ret
  exact ⟨rfl, hK5.1⟩
end Go.Proofs.YtpcpcgfljffkeaaDoor
