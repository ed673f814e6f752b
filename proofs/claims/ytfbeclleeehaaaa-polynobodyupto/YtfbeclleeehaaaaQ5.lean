/-
  Own text. The walk of the law PolyNobody.
-/
import Derived.Test.YtfbeclleeehaaaaN16
namespace Go.Proofs.Ytfbeclleeehaaaa
open Go.RowKit Go.Proofs
theorem run_bM0 (w : World) : (Instr.build 43 #[]).run Try.prog w = .ok (.agg (macC (fun _ => 0) (fun _ => 0) (fun _ => 0) (fun _ => 0) 0)) w := by kernel_rfl
theorem exec_bM0 {a : Act} {o : Oper} {w : World} (ho : o.op = .build 43 #[]) : (execOp a.eval o).run Try.prog w = .ok (.value (.agg (macC (fun _ => 0) (fun _ => 0) (fun _ => 0) (fun _ => 0) 0))) w := by
  have h := run_bM0 w
  unfold execOp
  simp only [ho, List.map_toArray, List.map_nil, Sem.run_bind, h, Result.andThen_ok, Sem.run_pure]
theorem build32z (w : World) : (Instr.build 22 #[]).run Try.prog w = .ok (.agg (WA .u8 32 fun _ => 0)) w := by kernel_rfl
theorem exec_b32z {a : Act} {o : Oper} {w : World} (ho : o.op = .build 22 #[]) : (execOp a.eval o).run Try.prog w = .ok (.value (.agg (WA .u8 32 fun _ => 0))) w := by
  have h := build32z w
  unfold execOp
  simp only [ho, List.map_toArray, List.map_nil, Sem.run_bind, h, Result.andThen_ok, Sem.run_pure]
theorem st_zero (f : Nat → Int) : St (fun _ => 0) f 0 (fun _ => 0) (fun _ => 0) (fun _ => 0) (fun _ => 0) := by
  have hr : rN (fun _ => 0) = 0 := by
    rw [rN, dval_congr (t := fun _ => 0) (fun i hi => by unfold rdig; simp)]
    decide
  have hz : qv (fun _ => 0) 5 = 0 := by decide
  refine ⟨fun _ _ => by show 0 ≤ (0 : Int) ∧ (0 : Int) < _; omega, by rw [hz, hr], by unfold U64; omega, by unfold U64; omega, by decide, ⟨fun _ _ => Int.le_refl _, fun _ _ _ => by show (0 : Int) < _; decide, by show (0 : Int) < _; decide⟩, ?_, fun _ _ => by show 0 ≤ (0 : Int) ∧ (0 : Int) < 256; omega, fun j hj => by omega⟩
  rw [hz]
  rfl
theorem byts_zero (n : Nat) : Byts n (fun _ => 0) := fun _ _ => by show 0 ≤ (0 : Int) ∧ (0 : Int) < 256; omega
set_option maxHeartbeats 4000000 in
theorem nobody_walk (v : Value) (n : Nat) (ts : Nat → ByteArray) (w : World) (hS : Strs w v n ts) (hb : n + (joinB ts n).size ≤ 1048576) : Calls Try.prog 7 #[v] w fun e w' => e = .returned (.bool true) ∧ Below w.heap.size w w' := by
  have hM : MacN (w.alloc (.cells (macC (fun _ => 0) (fun _ => 0) (fun _ => 0) (fun _ => 0) 0) 43)) w.heap.size (fun _ => 0) (fun _ => 0) 0 := ⟨_, _, _, _, heap_alloc_new w _, st_zero _⟩
  have hB : Below w.heap.size w (w.alloc (.cells (macC (fun _ => 0) (fun _ => 0) (fun _ => 0) (fun _ => 0) 0) 43)) := (Below.refl _ w).alloc (Nat.le_refl _) _
  go_enter Try.func7, Try.ntmps7
  go_wp2_with fail
  refine (Write_nil v w).mono ?_
  rintro e w' ⟨rfl, rfl⟩
  go_wp2_with (refine wl_value rfl (exec_bM0 rfl) ?_)
  have hv1 : ∀ u, Touch (fun x => x = w'.heap.size) (w'.alloc (.cells (macC (fun _ => 0) (fun _ => 0) (fun _ => 0) (fun _ => 0) 0) 43)) u → Strs u v n ts := fun u ht => hS.kept (fun k hk => (ht.block k (by simp; omega) (by omega)).trans (hB.block k hk))
  refine (Write_run w'.heap.size (fun _ => 0) (fun _ => 0) 0 v n ts _ hM hv1 (by omega)).mono ?_
  rintro e v2 ⟨rfl, hM2, ht2⟩
  rw [cat0, Nat.zero_add] at hM2
  have hB2 := belowT hB ht2 (Nat.le_refl _) (Nat.le_refl _)
  clear ht2 hv1 hM hB
  have hS2 := hS.below hB2
  go_wp2_with fail
  refine (Sum_nil v2).mono ?_
  rintro e v3 ⟨rfl, hb3⟩
  have hM3 := hM2.kept hb3
  have hS3 := hS2.below hb3
  have hB3 := hB2.trans (hb3.mono hB2.size)
  clear hM2 hS2 hB2 hb3
  go_wp2_with (first | (refine wl_value rfl (exec_b16 rfl) ?_) | (refine wl_value rfl (exec_b32z rfl) ?_) | (refine wl_value rfl (eql_WA rfl Try.underlying23 eqG16 (by rfl) (by rfl)) ?_))
  refine (Sum_run w'.heap.size (fun _ => 0) _ _ v3 hM3).mono ?_
  rintro e v4 ⟨rfl, hb4⟩
  have hS4 := hS3.below hb4
  have hB4 := hB3.trans (hb4.mono hB3.size)
  clear hM3 hS3 hB3 hb4
  go_wp2_with (first | (refine wl_value rfl (exec_b16 rfl) ?_) | (refine wl_value rfl (exec_b32z rfl) ?_) | (refine wl_value rfl (eql_WA rfl Try.underlying23 eqG16 (by rfl) (by rfl)) ?_))
  refine (joined_run v n ts v4 hS4 (by omega) (by omega)).mono ?_
  rintro e v5 ⟨rfl, hb5⟩
  have hB5 := hB4.trans (hb5.mono hB4.size)
  clear hS4 hB4 hb5
  go_wp2_with (first | (refine wl_value rfl (exec_b16 rfl) ?_) | (refine wl_value rfl (exec_b32z rfl) ?_) | (refine wl_value rfl (eql_WA rfl Try.underlying23 eqG16 (by rfl) (by rfl)) ?_))
  refine (rTag_run (fun _ => 0) (joinB ts n) v5 (byts_zero 32) (by omega)).mono ?_
  rintro e v6 ⟨rfl, hb6⟩
  have hB6 := hB5.trans (hb6.mono hB5.size)
  clear hB5 hb6
  go_wp2_with (first | (refine wl_value rfl (exec_b16 rfl) ?_) | (refine wl_value rfl (exec_b32z rfl) ?_) | (refine wl_value rfl (eql_WA rfl Try.underlying23 eqG16 (by rfl) (by rfl)) ?_))
  refine (awake_run v6).mono ?_
  rintro e v7 ⟨rfl, hb7⟩
  have hB7 := hB6.trans (hb7.mono hB6.size)
  clear hB6 hb7
  go_wp2_with fail
  go_ret
  exact ⟨rfl, hB7⟩
end Go.Proofs.Ytfbeclleeehaaaa
