/-
  Own text. The law FieldSums answers true at every input, walked over the translation.
-/
import Derived.Test.YtgklkkjhoecdoaaDoorS3
namespace Go.Proofs.YtgklkkjhoecdoaaDoor
open Go.RowKit Go.Proofs
theorem enterRAdd (args : Array Value) (w : World) : (callFunc 12 args).run Tryd.prog w = .ok (.enter 12 args) w := by kernel_rfl
theorem enterRMul (args : Array Value) (w : World) : (callFunc 13 args).run Tryd.prog w = .ok (.enter 13 args) w := by kernel_rfl
theorem enterKept (args : Array Value) (w : World) : (callFunc 14 args).run Tryd.prog w = .ok (.enter 14 args) w := by kernel_rfl
theorem rows_prefix {w : World} {b off : Nat} {ns ms : List Int} (h : RowsAt w b off (ns ++ ms)) : RowsAt w b off ns :=
  fun k hk => by
    have := h k (by rw [List.length_append]; omega)
    have e : (ns ++ ms).getD k 0 = ns.getD k 0 := by simp only [List.getD]; rw [List.getElem?_append_left hk]
    rwa [e] at this
theorem fmul_any (g cap : Nat) (ns : List Int) (w : World) (hr : ∀ n ∈ ns, N256 n) (hrows : RowsAt w g 0 ns) (hb : g < w.heap.size) (hlen : ns.length ≤ 4611686018427387904) (hcap : ns.length ≤ cap) :
    Calls Tryd.prog 11 #[.slice (some ⟨g, 0, none⟩) ns.length cap] w fun e w' => e = .returned (.agg (BA (lprod ns % P255))) ∧ Below w.heap.size w w' := by
  cases ns with
  | nil => rw [show lprod [] = 1 from rfl, mod1]; exact mul_none _ cap w
  | cons n ns => exact mul_walk g 0 cap (n :: ns) w hr hrows hb hlen hcap (by simp)
set_option maxHeartbeats 4000000 in
set_option maxRecDepth 100000 in
theorem sums_walk (v : Value) (ns : List Int) (w : World) (hP : PrimeAt w) (hv : View w v ns) (hr : ∀ n ∈ ns, N256 n) (hl : ns.length * 32 ≤ 140737488351232) :
    Calls Tryd.prog 3 #[v] w fun r w' => r = .returned (.bool true) ∧ Below w.heap.size w w' := by
  have hp0 := primeAt_pos hP
  have HP := Hid.mk hP
  have HR := Hid.mk hr
  have hlen : ns.length ≤ 4611686018427387904 := by omega
  have hsh : ∃ ao c, v = .slice ao ns.length c := by
    rcases hv with ⟨rfl, ao, c, h, _⟩ | ⟨_, b, off, c, h, _⟩
    · exact ⟨ao, c, h⟩
    · exact ⟨_, c, h⟩
  obtain ⟨ao, c, rfl⟩ := hsh
  have HV := Hid.mk hv
  clear hP hr hv
  go_enter Tryd.func3, Tryd.ntmps3
  go_wp2_with fail
  refine (lent_any _ ns _ HV.out hl).mono ?_
  rintro r v1 ⟨g, cp, rfl, hcp, hrow, hg, hB⟩
  have hv := HV.out.below hB
  clear HV
  go_wp2_with fail
  refine (add_walk g 0 cp ns _ HR.out (rows_prefix hrow) hg hlen).mono ?_
  rintro r v2 ⟨rfl, hb2⟩
  replace hv := hv.below hb2
  replace hrow := rows_below hrow hb2 hg
  replace hg := Nat.lt_of_lt_of_le hg hb2.size
  replace hB := Below.trans hB (hb2.mono hB.size)
  clear hb2
  go_wp2_with (refine st_bytesS (by rfl) (by rfl) (heap_alloc_new v2 _) (by rfl) ?_; intro v3 ga o3; have b3 : Below v2.heap.size v2 v3 := Below.trans ((Below.refl _ _).alloc (Nat.le_refl _) _) (Only.below (b := v2.heap.size) (B := v2.heap.size) o3 (Nat.le_refl _)))
  replace hv := hv.below b3
  replace hrow := rows_below hrow b3 hg
  replace hg := Nat.lt_of_lt_of_le hg b3.size
  replace hB := Below.trans hB (b3.mono hB.size)
  clear o3 b3
  generalize v2.heap.size = ba at *
  refine (fmul_any g cp ns _ HR.out (rows_prefix hrow) hg hlen (by omega)).mono ?_
  rintro r v4 ⟨rfl, hb4⟩
  replace hv := hv.below hb4
  replace hrow := rows_below hrow hb4 hg
  replace hg := Nat.lt_of_lt_of_le hg hb4.size
  replace hB := Below.trans hB (hb4.mono hB.size)
  replace ga := bheap hb4 ga (heap_lt ga)
  clear hb4
  go_wp2_with (refine st_bytesS (by rfl) (by rfl) (heap_alloc_new v4 _) (by rfl) ?_; intro v5 gb o5; have b5 : Below v4.heap.size v4 v5 := Below.trans ((Below.refl _ _).alloc (Nat.le_refl _) _) (Only.below (b := v4.heap.size) (B := v4.heap.size) o5 (Nat.le_refl _)))
  replace ga := bheap b5 ga (heap_lt ga)
  replace hv := hv.below b5
  replace hrow := rows_below hrow b5 hg
  replace hg := Nat.lt_of_lt_of_le hg b5.size
  replace hB := Below.trans hB (b5.mono hB.size)
  clear o5 b5
  generalize v4.heap.size = bb at *
  refine wp_region_steps (fun v => v.heap[ba]? = some (.cells (BA (ns.sum % P255)) 24 (0, 0)) ∧ v.heap[bb]? = some (.cells (BA (lprod ns % P255)) 24 (0, 0)) ∧ View v (.slice ao ns.length c) ns ∧ RowsAt v g 0 (ns ++ [7, 8]) ∧ g < v.heap.size ∧ Below w.heap.size w v) (fun v v' => Below v.heap.size v v') (known [(none, .agg (BA (ns.sum % P255))), (none, .slice ao ns.length c), (none, .agg (BA (ns.sum % P255))), (none, .bool true), (none, .bool true), (none, .agg (BA (lprod ns % P255))), (none, .slice ao ns.length c), (none, .agg (BA (lprod ns % P255))), (none, .bool true), (none, .bool true), (none, .bool true), (none, .slice (some ⟨g, 0, none⟩) ns.length cp), (none, .slice ao ns.length c), (none, .bool true), (none, .bool true), (none, .bool true), (none, .bool true), (none, .bool true), (none, .bool true)]) [12, 13, 14, 15, 16, 17, 18, 19, 20, 21, 22, 23, 24, 25, 26, 27, 28, 29, 2]
    [(4, .pointer (some ⟨ba, 0, none⟩)), (5, .pointer (some ⟨bb, 0, none⟩)), (0, .slice ao ns.length c), (3, .slice (some ⟨g, 0, none⟩) ns.length cp)] [[], [], [1], [0, 2], [3], [4], [4], [4, 6], [4, 5, 7], [4, 8], [9], [10], [10], [10, 11, 12], [10, 13], [14], [15], [15, 16], [17]] rfl (by kernel_rfl) ⟨rfl, rfl, rfl, rfl, trivial⟩ ⟨ga, gb, hv, hrow, hg, Below.drew hB⟩ (fun v v' h hb => ⟨bheap hb h.1 (heap_lt h.1), bheap hb h.2.1 (heap_lt h.2.1), h.2.2.1.below hb, rows_below h.2.2.2.1 hb h.2.2.2.2.1, Nat.lt_of_lt_of_le h.2.2.2.2.1 hb.size, Below.trans h.2.2.2.2.2 (hb.mono h.2.2.2.2.2.size)⟩) (known_keeps _)
    ⟨
      -- 0
      (fun Q a1 w hS fr kn => ⟨trivial, fun K hK => wp_value (look_bytes rfl _ _ fr.1 (BA_size _) hS.1) (hK _ _ rfl (Below.refl _ _))⟩),
      -- 1
      (fun Q a1 w hS fr kn => ⟨trivial, fun K hK => wp_value (exec_move _ rfl) (hK _ _ fr.2.2.1 (Below.refl _ _))⟩),
      -- 2
      (fun Q a1 w hS fr kn => ⟨trivial, fun K hK => call1 enterRAdd _ _ rfl _ _ kn.1 (radd_any _ ns w hS.2.2.1 HR.out hlen) (fun w' hb => hK _ _ rfl hb)⟩),
      -- 3
      (fun Q a1 w hS fr kn => ⟨trivial, fun K hK => wp_value (eql_same _ _ _ rfl _ kn.1 kn.2.1) (hK _ _ rfl (Below.refl _ _))⟩),
      -- 4
      (fun Q a1 w hS fr kn => ⟨trivial, fun K hK => wp_value (exec_move _ rfl) (hK _ _ kn.1 (Below.refl _ _))⟩),
      -- 5
      (fun Q a1 w hS fr kn => ⟨kn.1, fun K hK => wp_value (look_bytes rfl _ _ fr.2.1 (BA_size _) hS.2.1) (hK _ _ rfl (Below.refl _ _))⟩),
      -- 6
      (fun Q a1 w hS fr kn => ⟨kn.1, fun K hK => wp_value (exec_move _ rfl) (hK _ _ fr.2.2.1 (Below.refl _ _))⟩),
      -- 7
      (fun Q a1 w hS fr kn => ⟨kn.1, fun K hK => call1 enterRMul _ _ rfl _ _ kn.2.1 (rmul_any _ ns w hS.2.2.1 HR.out hlen) (fun w' hb => hK _ _ rfl hb)⟩),
      -- 8
      (fun Q a1 w hS fr kn => ⟨kn.1, fun K hK => wp_value (eql_same _ _ _ rfl _ kn.2.1 kn.2.2.1) (hK _ _ rfl (Below.refl _ _))⟩),
      -- 9
      (fun Q a1 w hS fr kn => ⟨trivial, fun K hK => wp_value (exec_pick _ _ _ rfl kn.1) (hK _ _ kn.2.1 (Below.refl _ _))⟩),
      -- 10
      (fun Q a1 w hS fr kn => ⟨trivial, fun K hK => wp_value (exec_move _ rfl) (hK _ _ kn.1 (Below.refl _ _))⟩),
      -- 11
      (fun Q a1 w hS fr kn => ⟨kn.1, fun K hK => wp_value (exec_move _ rfl) (hK _ _ fr.2.2.2.1 (Below.refl _ _))⟩),
      -- 12
      (fun Q a1 w hS fr kn => ⟨kn.1, fun K hK => wp_value (exec_move _ rfl) (hK _ _ fr.2.2.1 (Below.refl _ _))⟩),
      -- 13
      (fun Q a1 w hS fr kn => ⟨kn.1, fun K hK => call2 enterKept _ _ _ rfl _ _ _ kn.2.1 kn.2.2.1 (kept_any _ ns g cp w hS.2.2.1 hlen hcp hS.2.2.2.1 hS.2.2.2.2.1) (fun w' hb => hK _ _ rfl hb)⟩),
      -- 14
      (fun Q a1 w hS fr kn => ⟨trivial, fun K hK => wp_value (exec_pick _ _ _ rfl kn.1) (hK _ _ kn.2.1 (Below.refl _ _))⟩),
      -- 15
      (fun Q a1 w hS fr kn => ⟨trivial, fun K hK => wp_value (exec_move _ rfl) (hK _ _ kn.1 (Below.refl _ _))⟩),
      -- 16
      (fun Q a1 w hS fr kn => ⟨kn.1, fun K hK => call0 enterAwake _ rfl _ (awake_any w (primeAt_below HP.out hS.2.2.2.2.2 hp0)) (fun w' hb => hK _ _ rfl hb)⟩),
      -- 17
      (fun Q a1 w hS fr kn => ⟨trivial, fun K hK => wp_value (exec_pick _ _ _ rfl kn.1) (hK _ _ kn.2.1 (Below.refl _ _))⟩),
      -- 18
      (fun Q a1 w hS fr kn => ⟨trivial, fun K hK => wp_value (exec_assign _ rfl) (hK _ _ kn.1 (Below.refl _ _))⟩),
      trivial⟩ ?_
  intro vs v9 hS9 hk9
  have e4 : vs 2 = .bool true := hk9 18 (by decide)
  simp only [putAll, Act.put, List.setIfInBounds_toArray, List.set_cons_zero, List.set_cons_succ, e4]
  clear hk9 e4
  go_wp2
  go_ret
  exact ⟨rfl, hS9.2.2.2.2.2⟩
end Go.Proofs.YtgklkkjhoecdoaaDoor
