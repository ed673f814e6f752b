/-
  Own text. The law FieldTwo answers true at every input, walked over the translation.
-/
import Derived.Test.YtgklkkjhoecdoaaDoorI3
import Derived.Test.YtgklkkjhoecdoaaDoorK10
namespace Go.Proofs.YtgklkkjhoecdoaaDoor
open Go.RowKit Go.Proofs
theorem enterRCanon (args : Array Value) (w : World) : (callFunc 17 args).run Tryd.prog w = .ok (.enter 17 args) w := by kernel_rfl
theorem enterRSub (args : Array Value) (w : World) : (callFunc 19 args).run Tryd.prog w = .ok (.enter 19 args) w := by kernel_rfl
theorem eql_bool {a : Act} {o : Oper} {w : World} (x y : Operand) (ho : o.op = .binOp .eql 4 x y 4) (b : Bool) (hx : a.eval x = .bool b) (hy : a.eval y = .bool b) : (execOp a.eval o).run Tryd.prog w = .ok (.value (.bool true)) w := by
  unfold execOp
  simp only [ho, hx, hy]
  simp [go_sem]
set_option maxHeartbeats 4000000 in
set_option maxRecDepth 100000 in
theorem two_walk (a b : Int) (w : World) (hP : PrimeAt w) (ha : N256 a) (hb : N256 b) :
    Calls Tryd.prog 4 #[.agg (BA a), .agg (BA b)] w fun r w' => r = .returned (.bool true) ∧ Below w.heap.size w w' := by
  have hp0 := primeAt_pos hP
  have HP := Hid.mk hP
  have na := N256.mod a
  have nb := N256.mod b
  clear hP
  go_enter Tryd.func4, Tryd.ntmps4
  go_wp2
  refine wp_gen (fun v => v.heap[w.heap.size]? = some (.cells (BA a) 24 (0, 0)) ∧ v.heap[w.heap.size + 1]? = some (.cells (BA b) 24 (0, 0)) ∧ Below w.heap.size w v)
    ⟨heap_alloc2_old w _ _, heap_alloc2_new w _ _, by repeat first | exact Below.refl _ _ | refine Below.alloc ?_ (by simp <;> omega) _⟩ ?_
  rintro v0 ⟨ga, gb, hB⟩
  refine wp_region_steps (fun v => v.heap[w.heap.size]? = some (.cells (BA a) 24 (0, 0)) ∧ v.heap[w.heap.size + 1]? = some (.cells (BA b) 24 (0, 0)) ∧ Below w.heap.size w v) (fun v v' => Below v.heap.size v v') (known [(none, .agg (BA a)), (none, .agg (BA (a % P255))), (none, .agg (BA a)), (none, .agg (BA (a % P255))), (none, .bool true), (none, .bool true), (none, .agg (BA a)), (none, .agg (BA b)), (none, .agg (BA ((a - b) % P255))), (none, .agg (BA a)), (none, .agg (BA b)), (none, .agg (BA ((a - b) % P255))), (none, .bool true), (none, .bool true), (none, .bool true), (none, .agg (BA a)), (none, .agg (BA b)), (none, .bool (a % P255 == b % P255)), (none, .agg (BA a)), (none, .agg (BA (a % P255))), (none, .agg (BA b)), (none, .agg (BA (b % P255))), (none, .bool (a % P255 == b % P255)), (none, .bool true), (none, .bool true), (none, .bool true), (none, .bool true), (none, .bool true), (none, .bool true)]) [5, 6, 7, 8, 9, 10, 11, 12, 13, 14, 15, 16, 17, 18, 19, 20, 21, 22, 23, 24, 25, 26, 27, 28, 29, 30, 31, 32, 4]
    [(2, .pointer (some ⟨w.heap.size, 0, none⟩)), (3, .pointer (some ⟨w.heap.size + 1, 0, none⟩))] [[], [0], [], [2], [1, 3], [4], [5], [5], [5, 6, 7], [5], [5], [5, 9, 10], [5, 8, 11], [5, 12], [13], [14], [14], [14, 15, 16], [14], [14, 18], [14], [14, 20], [14, 19, 21], [14, 17, 22], [14, 23], [24], [25], [25, 26], [27]] rfl (by kernel_rfl) ⟨rfl, rfl, trivial⟩ ⟨ga, gb, Below.drew hB⟩ (fun v v' h hb => ⟨bheap hb h.1 (heap_lt h.1), bheap hb h.2.1 (heap_lt h.2.1), Below.trans h.2.2 (hb.mono h.2.2.size)⟩) (known_keeps _)
    ⟨
      -- 0
      (fun Q a1 w hS fr kn => ⟨trivial, fun K hK => wp_value (look_bytes rfl _ _ fr.1 (BA_size _) hS.1) (hK _ _ rfl (Below.refl _ _))⟩),
      -- 1
      (fun Q a1 w hS fr kn => ⟨trivial, fun K hK => call1 enterCanon _ _ rfl _ _ kn.1 (canon_any a w ha.1 ha.2) (fun w' hb => hK _ _ rfl hb)⟩),
      -- 2
      (fun Q a1 w hS fr kn => ⟨trivial, fun K hK => wp_value (look_bytes rfl _ _ fr.1 (BA_size _) hS.1) (hK _ _ rfl (Below.refl _ _))⟩),
      -- 3
      (fun Q a1 w hS fr kn => ⟨trivial, fun K hK => call1 enterRCanon _ _ rfl _ _ kn.1 (rcanon_any a w ha) (fun w' hb => hK _ _ rfl hb)⟩),
      -- 4
      (fun Q a1 w hS fr kn => ⟨trivial, fun K hK => wp_value (eql_same _ _ _ rfl _ kn.1 kn.2.1) (hK _ _ rfl (Below.refl _ _))⟩),
      -- 5
      (fun Q a1 w hS fr kn => ⟨trivial, fun K hK => wp_value (exec_move _ rfl) (hK _ _ kn.1 (Below.refl _ _))⟩),
      -- 6
      (fun Q a1 w hS fr kn => ⟨kn.1, fun K hK => wp_value (look_bytes rfl _ _ fr.1 (BA_size _) hS.1) (hK _ _ rfl (Below.refl _ _))⟩),
      -- 7
      (fun Q a1 w hS fr kn => ⟨kn.1, fun K hK => wp_value (look_bytes rfl _ _ fr.2.1 (BA_size _) hS.2.1) (hK _ _ rfl (Below.refl _ _))⟩),
      -- 8
      (fun Q a1 w hS fr kn => ⟨kn.1, fun K hK => call2 enterSub _ _ _ rfl _ _ _ kn.2.1 kn.2.2.1 (sub_any a b w (primeAt_below HP.out hS.2.2 hp0) ha.1 ha.2 hb.1 hb.2) (fun w' hb => hK _ _ rfl hb)⟩),
      -- 9
      (fun Q a1 w hS fr kn => ⟨kn.1, fun K hK => wp_value (look_bytes rfl _ _ fr.1 (BA_size _) hS.1) (hK _ _ rfl (Below.refl _ _))⟩),
      -- 10
      (fun Q a1 w hS fr kn => ⟨kn.1, fun K hK => wp_value (look_bytes rfl _ _ fr.2.1 (BA_size _) hS.2.1) (hK _ _ rfl (Below.refl _ _))⟩),
      -- 11
      (fun Q a1 w hS fr kn => ⟨kn.1, fun K hK => call2 enterRSub _ _ _ rfl _ _ _ kn.2.1 kn.2.2.1 (rsub_any a b w ha hb) (fun w' hb => hK _ _ rfl hb)⟩),
      -- 12
      (fun Q a1 w hS fr kn => ⟨kn.1, fun K hK => wp_value (eql_same _ _ _ rfl _ kn.2.1 kn.2.2.1) (hK _ _ rfl (Below.refl _ _))⟩),
      -- 13
      (fun Q a1 w hS fr kn => ⟨trivial, fun K hK => wp_value (exec_pick _ _ _ rfl kn.1) (hK _ _ kn.2.1 (Below.refl _ _))⟩),
      -- 14
      (fun Q a1 w hS fr kn => ⟨trivial, fun K hK => wp_value (exec_move _ rfl) (hK _ _ kn.1 (Below.refl _ _))⟩),
      -- 15
      (fun Q a1 w hS fr kn => ⟨kn.1, fun K hK => wp_value (look_bytes rfl _ _ fr.1 (BA_size _) hS.1) (hK _ _ rfl (Below.refl _ _))⟩),
      -- 16
      (fun Q a1 w hS fr kn => ⟨kn.1, fun K hK => wp_value (look_bytes rfl _ _ fr.2.1 (BA_size _) hS.2.1) (hK _ _ rfl (Below.refl _ _))⟩),
      -- 17
      (fun Q a1 w hS fr kn => ⟨kn.1, fun K hK => call2 enterSame _ _ _ rfl _ _ _ kn.2.1 kn.2.2.1 (same_any a b w ha hb) (fun w' hb => hK _ _ rfl hb)⟩),
      -- 18
      (fun Q a1 w hS fr kn => ⟨kn.1, fun K hK => wp_value (look_bytes rfl _ _ fr.1 (BA_size _) hS.1) (hK _ _ rfl (Below.refl _ _))⟩),
      -- 19
      (fun Q a1 w hS fr kn => ⟨kn.1, fun K hK => call1 enterRCanon _ _ rfl _ _ kn.2.1 (rcanon_any a w ha) (fun w' hb => hK _ _ rfl hb)⟩),
      -- 20
      (fun Q a1 w hS fr kn => ⟨kn.1, fun K hK => wp_value (look_bytes rfl _ _ fr.2.1 (BA_size _) hS.2.1) (hK _ _ rfl (Below.refl _ _))⟩),
      -- 21
      (fun Q a1 w hS fr kn => ⟨kn.1, fun K hK => call1 enterRCanon _ _ rfl _ _ kn.2.1 (rcanon_any b w hb) (fun w' hb => hK _ _ rfl hb)⟩),
      -- 22
      (fun Q a1 w hS fr kn => ⟨kn.1, fun K hK => wp_value (eql_bytes _ _ _ rfl _ _ kn.2.1 kn.2.2.1 na.1 na.2 nb.1 nb.2) (hK _ _ rfl (Below.refl _ _))⟩),
      -- 23
      (fun Q a1 w hS fr kn => ⟨kn.1, fun K hK => wp_value (eql_bool _ _ rfl _ kn.2.1 kn.2.2.1) (hK _ _ rfl (Below.refl _ _))⟩),
      -- 24
      (fun Q a1 w hS fr kn => ⟨trivial, fun K hK => wp_value (exec_pick _ _ _ rfl kn.1) (hK _ _ kn.2.1 (Below.refl _ _))⟩),
      -- 25
      (fun Q a1 w hS fr kn => ⟨trivial, fun K hK => wp_value (exec_move _ rfl) (hK _ _ kn.1 (Below.refl _ _))⟩),
      -- 26
      (fun Q a1 w hS fr kn => ⟨kn.1, fun K hK => call0 enterAwake _ rfl _ (awake_any w (primeAt_below HP.out hS.2.2 hp0)) (fun w' hb => hK _ _ rfl hb)⟩),
      -- 27
      (fun Q a1 w hS fr kn => ⟨trivial, fun K hK => wp_value (exec_pick _ _ _ rfl kn.1) (hK _ _ kn.2.1 (Below.refl _ _))⟩),
      -- 28
      (fun Q a1 w hS fr kn => ⟨trivial, fun K hK => wp_value (exec_assign _ rfl) (hK _ _ kn.1 (Below.refl _ _))⟩),
      trivial⟩ ?_
  intro vs v9 hS9 hk9
  have e4 : vs 4 = .bool true := hk9 28 (by decide)
  simp only [putAll, Act.put, List.setIfInBounds_toArray, List.set_cons_zero, List.set_cons_succ, e4]
  clear hk9 e4
  go_wp2
  go_ret
  exact ⟨rfl, hS9.2.2⟩
end Go.Proofs.YtgklkkjhoecdoaaDoor
