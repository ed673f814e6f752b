/-
  Own text. The law FieldPowers answers true at every input, walked over the translation.
-/
import Derived.Test.YtgklkkjhoecdoaaDoorI3
import Derived.Test.YtgklkkjhoecdoaaDoorP1
namespace Go.Proofs.YtgklkkjhoecdoaaDoor
open Go.RowKit Go.Proofs
theorem enterRPow (args : Array Value) (w : World) : (callFunc 24 args).run Tryd.prog w = .ok (.enter 24 args) w := by kernel_rfl
theorem enterRInv (args : Array Value) (w : World) : (callFunc 26 args).run Tryd.prog w = .ok (.enter 26 args) w := by kernel_rfl
set_option maxHeartbeats 4000000 in
set_option maxRecDepth 100000 in
theorem powers_walk (a b : Int) (w : World) (hP : PrimeAt w) (ha : N256 a) (hb : N256 b) :
    Calls Tryd.prog 6 #[.agg (BA a), .agg (BA b)] w fun r w' => r = .returned (.bool true) ∧ Below w.heap.size w w' := by
  have hp0 := primeAt_pos hP
  have HP := Hid.mk hP
  clear hP
  go_enter Tryd.func6, Tryd.ntmps6
  go_wp2
  refine wp_gen (fun v => v.heap[w.heap.size]? = some (.cells (BA a) 24 (0, 0)) ∧ v.heap[w.heap.size + 1]? = some (.cells (BA b) 24 (0, 0)) ∧ Below w.heap.size w v)
    ⟨heap_alloc2_old w _ _, heap_alloc2_new w _ _, by repeat first | exact Below.refl _ _ | refine Below.alloc ?_ (by simp <;> omega) _⟩ ?_
  rintro v0 ⟨ga, gb, hB⟩
  refine wp_region_steps (fun v => v.heap[w.heap.size]? = some (.cells (BA a) 24 (0, 0)) ∧ v.heap[w.heap.size + 1]? = some (.cells (BA b) 24 (0, 0)) ∧ Below w.heap.size w v) (fun v v' => Below v.heap.size v v') (known [(none, .agg (BA a)), (none, .agg (BA b)), (none, .agg (BA (a ^ b.toNat % P255))), (none, .agg (BA a)), (none, .agg (BA b)), (none, .agg (BA (a ^ b.toNat % P255))), (none, .bool true), (none, .bool true), (none, .agg (BA a)), (none, .agg (BA (invN a))), (none, .agg (BA a)), (none, .agg (BA (invN a))), (none, .bool true), (none, .bool true), (none, .bool true), (none, .bool true), (none, .bool true), (none, .bool true)]) [5, 6, 7, 8, 9, 10, 11, 12, 13, 14, 15, 16, 17, 18, 19, 20, 21, 4]
    [(2, .pointer (some ⟨w.heap.size, 0, none⟩)), (3, .pointer (some ⟨w.heap.size + 1, 0, none⟩))] [[], [], [0, 1], [], [], [3, 4], [2, 5], [6], [7], [7, 8], [7], [7, 10], [7, 9, 11], [7, 12], [13], [14], [14, 15], [16]] rfl (by kernel_rfl) ⟨rfl, rfl, trivial⟩ ⟨ga, gb, Below.drew hB⟩ (fun v v' h hb => ⟨bheap hb h.1 (heap_lt h.1), bheap hb h.2.1 (heap_lt h.2.1), Below.trans h.2.2 (hb.mono h.2.2.size)⟩) (known_keeps _)
    ⟨
      -- 0
      (fun Q a1 w hS fr kn => ⟨trivial, fun K hK => wp_value (look_bytes rfl _ _ fr.1 (BA_size _) hS.1) (hK _ _ rfl (Below.refl _ _))⟩),
      -- 1
      (fun Q a1 w hS fr kn => ⟨trivial, fun K hK => wp_value (look_bytes rfl _ _ fr.2.1 (BA_size _) hS.2.1) (hK _ _ rfl (Below.refl _ _))⟩),
      -- 2
      (fun Q a1 w hS fr kn => ⟨trivial, fun K hK => call2 enterPow _ _ _ rfl _ _ _ kn.1 kn.2.1 (pow_any a b w ha.1 ha.2 hb.1 hb.2) (fun w' hb => hK _ _ rfl hb)⟩),
      -- 3
      (fun Q a1 w hS fr kn => ⟨trivial, fun K hK => wp_value (look_bytes rfl _ _ fr.1 (BA_size _) hS.1) (hK _ _ rfl (Below.refl _ _))⟩),
      -- 4
      (fun Q a1 w hS fr kn => ⟨trivial, fun K hK => wp_value (look_bytes rfl _ _ fr.2.1 (BA_size _) hS.2.1) (hK _ _ rfl (Below.refl _ _))⟩),
      -- 5
      (fun Q a1 w hS fr kn => ⟨trivial, fun K hK => call2 enterRPow _ _ _ rfl _ _ _ kn.1 kn.2.1 (rpow_any a b w ha hb) (fun w' hb => hK _ _ rfl hb)⟩),
      -- 6
      (fun Q a1 w hS fr kn => ⟨trivial, fun K hK => wp_value (eql_same _ _ _ rfl _ kn.1 kn.2.1) (hK _ _ rfl (Below.refl _ _))⟩),
      -- 7
      (fun Q a1 w hS fr kn => ⟨trivial, fun K hK => wp_value (exec_move _ rfl) (hK _ _ kn.1 (Below.refl _ _))⟩),
      -- 8
      (fun Q a1 w hS fr kn => ⟨kn.1, fun K hK => wp_value (look_bytes rfl _ _ fr.1 (BA_size _) hS.1) (hK _ _ rfl (Below.refl _ _))⟩),
      -- 9
      (fun Q a1 w hS fr kn => ⟨kn.1, fun K hK => call1 enterInv _ _ rfl _ _ kn.2.1 (inv_any a w (primeAt_below HP.out hS.2.2 hp0) ha) (fun w' hb => hK _ _ rfl hb)⟩),
      -- 10
      (fun Q a1 w hS fr kn => ⟨kn.1, fun K hK => wp_value (look_bytes rfl _ _ fr.1 (BA_size _) hS.1) (hK _ _ rfl (Below.refl _ _))⟩),
      -- 11
      (fun Q a1 w hS fr kn => ⟨kn.1, fun K hK => call1 enterRInv _ _ rfl _ _ kn.2.1 (rinv_any a w ha) (fun w' hb => hK _ _ rfl hb)⟩),
      -- 12
      (fun Q a1 w hS fr kn => ⟨kn.1, fun K hK => wp_value (eql_same _ _ _ rfl _ kn.2.1 kn.2.2.1) (hK _ _ rfl (Below.refl _ _))⟩),
      -- 13
      (fun Q a1 w hS fr kn => ⟨trivial, fun K hK => wp_value (exec_pick _ _ _ rfl kn.1) (hK _ _ kn.2.1 (Below.refl _ _))⟩),
      -- 14
      (fun Q a1 w hS fr kn => ⟨trivial, fun K hK => wp_value (exec_move _ rfl) (hK _ _ kn.1 (Below.refl _ _))⟩),
      -- 15
      (fun Q a1 w hS fr kn => ⟨kn.1, fun K hK => call0 enterAwake _ rfl _ (awake_any w (primeAt_below HP.out hS.2.2 hp0)) (fun w' hb => hK _ _ rfl hb)⟩),
      -- 16
      (fun Q a1 w hS fr kn => ⟨trivial, fun K hK => wp_value (exec_pick _ _ _ rfl kn.1) (hK _ _ kn.2.1 (Below.refl _ _))⟩),
      -- 17
      (fun Q a1 w hS fr kn => ⟨trivial, fun K hK => wp_value (exec_assign _ rfl) (hK _ _ kn.1 (Below.refl _ _))⟩),
      trivial⟩ ?_
  intro vs v9 hS9 hk9
  have e4 : vs 4 = .bool true := hk9 17 (by decide)
  simp only [putAll, Act.put, List.setIfInBounds_toArray, List.set_cons_zero, List.set_cons_succ, e4]
  clear hk9 e4
  go_wp2
  go_ret
  exact ⟨rfl, hS9.2.2⟩
end Go.Proofs.YtgklkkjhoecdoaaDoor
