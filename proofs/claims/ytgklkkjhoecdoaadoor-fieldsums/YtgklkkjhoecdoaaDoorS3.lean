/-
  Own text. What kept of the laws gives: true, where what was lent stands as it was.
-/
import Derived.Test.YtgklkkjhoecdoaaDoorS2
import Derived.Test.YtgklkkjhoecdoaaDoorO2
namespace Go.Proofs.YtgklkkjhoecdoaaDoor
open Go.RowKit Go.Proofs
theorem getD_left (ns : List Int) (k : Nat) (h : k < ns.length) : (ns ++ [7, 8]).getD k 0 = ns.getD k 0 := by
  simp only [List.getD]; rw [List.getElem?_append_left h]
theorem getD_seven (ns : List Int) : (ns ++ [7, 8]).getD ns.length 0 = 7 := by simp [List.getD]
theorem getD_eight (ns : List Int) : (ns ++ [7, 8]).getD (ns.length + 1) 0 = 8 := by simp [List.getD]
def keF (i : Nat) : Nat := [2, 2, 2, 1, 2, 2, 2, 1, 2].getD i 2
def keT (_i : Nat) : Bool := true
set_option maxHeartbeats 1000000 in
set_option maxRecDepth 100000 in
theorem kept_any (v : Value) (ns : List Int) (g cap : Nat) (w : World) (hv : View w v ns) (hlen : ns.length ≤ 4611686018427387904) (hcap : ns.length + 2 ≤ cap) (hrow : RowsAt w g 0 (ns ++ [7, 8])) (hg : g < w.heap.size) :
    Calls Tryd.prog 14 #[.slice (some ⟨g, 0, none⟩) ns.length cap, v] w fun e w' => e = .returned (.bool true) ∧ Below w.heap.size w w' := by
  have HG : Hid (∀ k, k < ns.length → w.rangeAt g (k * 32) (BA (ns.getD k 0)).toList) := Hid.mk (fun k hk => by have := hrow k (by simp; omega); rwa [getD_left ns k hk, Nat.zero_add] at this)
  have H7 : Hid (w.rangeAt g (ns.length * 32) (BA 7).toList) := Hid.mk (by have := hrow ns.length (by simp); rwa [getD_seven, Nat.zero_add] at this)
  have H8 : Hid (w.rangeAt g ((ns.length + 1) * 32) (BA 8).toList) := Hid.mk (by have := hrow (ns.length + 1) (by simp); rwa [getD_eight, Nat.zero_add] at this)
  clear hrow
  rcases hv with ⟨rfl, ao, c, rfl, _⟩ | ⟨hpos, b, off, c, rfl, hrows, hb, _⟩
  · go_enter Tryd.func14, Tryd.ntmps14
    simp only [List.length_nil] at *
    go_wp2_with fail
    refine wp_loop_rounds 1 ?_
    rw [rounds_succ]
    go_wp2_with (first | (refine ld_mid rfl _ rfl _ _ 7 rfl H7.out ?_) | (refine wl_value rfl (exec_build 0 7 rfl 7 (build7 _)) ?_) | (refine wl_value rfl (eql_same _ _ _ rfl 7 rfl rfl) ?_) | (refine wl_value rfl (look_mid rfl _ _ 8 rfl H8.out) ?_) | (refine wl_value rfl (exec_build 0 8 rfl 8 (build8 _)) ?_) | (refine wl_value rfl (eql_same _ _ _ rfl 8 rfl rfl) ?_))
    go_ret
    exact ⟨rfl, Below.refl _ _⟩
  · have HW := Hid.mk hrows
    clear hrows
    go_enter Tryd.func14, Tryd.ntmps14
    go_wp2_with fail
    go_loopw [6] (fun i v => ∃ k : Nat, k ≤ ns.length ∧ i = .int .i64 k ∧ Below w.heap.size w v) (fun i _ => ns.length - (intOf i).toNat)
    case atStart => exact ⟨0, Nat.zero_le _, rfl, Below.refl _ _⟩
    case round =>
      obtain ⟨k, hk, rfl, hB⟩ := hrel
      by_cases hlt : k < ns.length
      · have hr1 : wr.rangeAt g (k * 32) (BA (ns.getD k 0)).toList := fun j v hv => (hB.cell hg).trans (HG.out k hlt j v hv)
        have hr2 : wr.rangeAt b (off + k * 32) (BA (ns.getD k 0)).toList := fun j v hv => (hB.cell hb).trans (HW.out k hlt j v hv)
        generalize ns.getD k 0 = n at *
        have hi1 : (k : Int) < (ns.length : Int) + 2 := by omega
        have hi2 : (k : Int) < (ns.length : Int) := by omega
        go_wp2_with fail
        refine wp_region_mixS (fun v => v.rangeAt g (k * 32) (BA n).toList ∧ v.rangeAt b (off + k * 32) (BA n).toList)
          keF keT [0, 1, 2, 3, 4, 5, 6, 7, 8] rfl (by kernel_rfl) (fun _ _ d _ _ h => by cases d <;> exact h) ⟨hr1, hr2⟩ (fun HS => ?_)
        iterate 3
          apply mix_pure rfl rfl rfl
          focus (intro wq; go_simp; first | done | with_reducible rfl)
          simp only [Act.put, List.setIfInBounds_toArray, List.set_cons_zero, List.set_cons_succ]
        apply mix_look rfl rfl rfl HS
        focus exact fun v h => look_mid rfl _ _ n rfl h.1
        simp only [Act.put, List.setIfInBounds_toArray, List.set_cons_zero, List.set_cons_succ]
        iterate 3
          apply mix_pure rfl rfl rfl
          focus (intro wq; go_simp; first | done | with_reducible rfl)
          simp only [Act.put, List.setIfInBounds_toArray, List.set_cons_zero, List.set_cons_succ]
        apply mix_look rfl rfl rfl HS
        focus exact fun v h => look_mid rfl _ _ n rfl h.2
        simp only [Act.put, List.setIfInBounds_toArray, List.set_cons_zero, List.set_cons_succ]
        apply mix_pure rfl rfl rfl
        focus exact fun v => neq_same _ _ _ rfl n rfl rfl
        simp only [Act.put, List.setIfInBounds_toArray, List.set_cons_zero, List.set_cons_succ]
        refine mix_done ?_
        clear HS hr1 hr2
        go_wp2
        go_roundw
        case rel => exact ⟨k + 1, by omega, by go_num, Below.drew hB⟩
        case measure => simp [intOf]; omega
      · have hk2 : k = ns.length := by omega
        subst hk2
        have h7 : wr.rangeAt g (ns.length * 32) (BA 7).toList := fun j v hv => (hB.cell hg).trans (H7.out j v hv)
        have h8 : wr.rangeAt g ((ns.length + 1) * 32) (BA 8).toList := fun j v hv => (hB.cell hg).trans (H8.out j v hv)
        have H7' := Hid.mk h7
        have H8' := Hid.mk h8
        clear h7 h8
        go_wp2_with (first | (refine ld_mid rfl _ rfl _ _ 7 rfl H7'.out ?_) | (refine wl_value rfl (exec_build 0 7 rfl 7 (build7 _)) ?_) | (refine wl_value rfl (eql_same _ _ _ rfl 7 rfl rfl) ?_) | (refine wl_value rfl (look_mid rfl _ _ 8 rfl H8'.out) ?_) | (refine wl_value rfl (exec_build 0 8 rfl 8 (build8 _)) ?_) | (refine wl_value rfl (eql_same _ _ _ rfl 8 rfl rfl) ?_))
        go_ret
        exact ⟨rfl, hB⟩
end Go.Proofs.YtgklkkjhoecdoaaDoor
