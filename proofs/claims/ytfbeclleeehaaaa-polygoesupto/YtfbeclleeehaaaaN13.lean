/-
  Own text. What New of package poly answers: a contract over the translation.
-/
import Derived.Test.YtfbeclleeehaaaaN12
namespace Go.Proofs.Ytfbeclleeehaaaa
open Go.RowKit Go.Proofs
/-- What is known of each slot: its value, or K of it and the world. -/
def knM (l : List (Option Value)) (K : Value → World → Prop) (i : Nat) (v : Value) (w : World) : Prop := match l.getD i none with
  | some u => v = u
  | none => K v w
theorem knM_keeps {l : List (Option Value)} {K : Value → World → Prop} (hK : ∀ v w w', K v w → Below w.heap.size w w' → K v w') : ∀ (i : Nat) v w w', knM l K i v w → Below w.heap.size w w' → knM l K i v w' := by
  intro i v w w' h hb
  unfold knM at *
  generalize l.getD i none = o at *
  cases o with
  | some u => exact h
  | none => exact hK v w w' h hb
def pk2 (a b : Int) : Nat → Int
  | 0 => a
  | 1 => b
  | _ => 0
/-- r and s of a key, as a MAC keeps them. -/
def rL (key : Nat → Int) : Nat → Int := lofs (dval (rdig key) 8) (dval (fun j => rdig key (8 + j)) 8) 0
def sL (key : Nat → Int) : Nat → Int := pk2 (dval (fun j => key (16 + j)) 8) (dval (fun j => key (24 + j)) 8)
theorem sl32a (b : Nat) (w : World) : (Instr.sliceAt 22 (.pointer (some ⟨b, 0, none⟩)) none (some (.int .i64 8)) none).run Try.prog w = .ok (.slice (some ⟨b, 0, none⟩) 8 32) w := by simp [go_sem]
theorem sl32b (b : Nat) (w : World) : (Instr.sliceAt 22 (.pointer (some ⟨b, 0, none⟩)) (some (.int .i64 8)) (some (.int .i64 16)) none).run Try.prog w = .ok (.slice (some ⟨b, 8, none⟩) 8 24) w := by simp [go_sem]
theorem sl32c (b : Nat) (w : World) : (Instr.sliceAt 22 (.pointer (some ⟨b, 0, none⟩)) (some (.int .i64 16)) (some (.int .i64 24)) none).run Try.prog w = .ok (.slice (some ⟨b, 16, none⟩) 8 16) w := by simp [go_sem]
theorem sl32d (b : Nat) (w : World) : (Instr.sliceAt 22 (.pointer (some ⟨b, 0, none⟩)) (some (.int .i64 24)) none none).run Try.prog w = .ok (.slice (some ⟨b, 24, none⟩) 8 8) w := by simp [go_sem]
theorem exec_and64 {a : Act} {o : Oper} {w : World} {x y : Operand} (ho : o.op = .binOp .and 38 x y 38) {m n : Int} (hx : a.eval x = .int .u64 m) (hy : a.eval y = .int .u64 n) :
    (execOp a.eval o).run Try.prog w = .ok (.value (.int .u64 (bits .and .u64 m n))) w := exec_bin ho rfl hx hy (by simp [go_sem])
theorem run_build2 (x y : Int) (w : World) : (Instr.build 41 #[(0, .int .u64 x), (1, .int .u64 y)]).run Try.prog w = .ok (.agg #[.int .u64 x, .int .u64 y]) w := by kernel_rfl
theorem exec_build2 {a : Act} {o : Oper} {w : World} {x y : Operand} (ho : o.op = .build 41 #[(0, x), (1, y)]) {m n : Int} (hx : a.eval x = .int .u64 m) (hy : a.eval y = .int .u64 n) : (execOp a.eval o).run Try.prog w = .ok (.value (.agg (WA .u64 2 (pk2 m n)))) w := by
  have h := run_build2 m n w
  unfold execOp
  simp only [ho, List.map_toArray, List.map_cons, List.map_nil, hx, hy, Sem.run_bind, h, Result.andThen_ok, Sem.run_pure]
  rfl
theorem run_buildM (R S : Nat → Int) (w : World) : (Instr.build 43 #[(0, .agg (WA .u64 5 R)), (1, .agg (WA .u64 2 S))]).run Try.prog w = .ok (.agg (macC R S (fun _ => 0) (fun _ => 0) 0)) w := by kernel_rfl
theorem exec_buildM {a : Act} {o : Oper} {w : World} {x y : Operand} (ho : o.op = .build 43 #[(0, x), (1, y)]) {R S : Nat → Int} (hx : a.eval x = .agg (WA .u64 5 R)) (hy : a.eval y = .agg (WA .u64 2 S)) : (execOp a.eval o).run Try.prog w = .ok (.value (.agg (macC R S (fun _ => 0) (fun _ => 0) 0))) w := by
  have h := run_buildM R S w
  unfold execOp
  simp only [ho, List.map_toArray, List.map_cons, List.map_nil, hx, hy, Sem.run_bind, h, Result.andThen_ok, Sem.run_pure]
theorem act_boxM {o : Oper} {a : Act} {w : World} {K : Act → World → Prop} {Q : Exit → Act → World → Prop} {x : Operand} {cs : Array Value} (ho : o.op = .box 43 x) (hx : a.eval x = .agg cs)
    (h : ∀ w', w'.heap[w.heap.size]? = some (.cells cs 43 (0, 0)) → Below w.heap.size w w' → K (a.put o.dst (.pointer (some ⟨w.heap.size, 0, none⟩))) w') : o.wp Try.prog a w K Q := by
  unfold Oper.wp execOp
  simp only [ho, hx]
  simp [go_sem]
  exact h _ (heap_alloc_new w _) ((Below.refl _ _).alloc (Nat.le_refl _) _)
theorem st_new {key : Nat → Int} (hk : Byts 32 key) (f : Nat → Int) : St key f 0 (rL key) (sL key) (fun _ => 0) (fun _ => 0) := by
  have b0 := dval8_b (s := rdig key) (fun i hi => rdig_b hk i (by omega))
  have b8 := dval8_b (s := fun j => rdig key (8 + j)) (fun i hi => rdig_b hk (8 + i) (by omega))
  have h16 := dval8_b (s := fun j => key (16 + j)) (fun i hi => hk (16 + i) (by omega))
  have h24 := dval8_b (s := fun j => key (24 + j)) (fun i hi => hk (24 + i) (by omega))
  refine ⟨lofs_dg b0 b8 (by omega), ?_, h16, h24, ?_, ⟨fun _ _ => Int.le_refl _, fun _ _ _ => by show (0 : Int) < _; decide, by show (0 : Int) < _; decide⟩, ?_, fun _ _ => by show 0 ≤ (0 : Int) ∧ (0 : Int) < 256; omega, fun j hj => by omega⟩
  · have h := dval_shift (rdig key) 8 8
    unfold rL
    rw [lofs_num]
    unfold rN
    rw [show (16 : Nat) = 8 + 8 from rfl, h]
    simp only [Int.reducePow]
    omega
  · have h := dval_shift (fun i => key (16 + i)) 8 8
    unfold sN
    rw [show dval (fun i => key (16 + i)) 16 = dval (fun i => key (16 + i)) (8 + 8) from rfl, h]
    show dval (fun j => key (16 + j)) 8 + 18446744073709551616 * dval (fun j => key (24 + j)) 8 = _
    rw [dval_congr (s := fun j => key (16 + (8 + j))) (t := fun j => key (24 + j)) (fun j _ => by show key (16 + (8 + j)) = key (24 + j); congr 1; omega)]
    simp only [Int.reducePow]
  · simp [qv, accN]
set_option maxHeartbeats 4000000 in
set_option maxRecDepth 100000 in
theorem New_run (key f : Nat → Int) (w : World) (hk : Byts 32 key) :
    Calls Try.prog 12 #[.agg (WA .u8 32 key)] w fun e w' => ∃ b, w.heap.size ≤ b ∧ e = .returned (.pointer (some ⟨b, 0, none⟩)) ∧ MacN w' b key f 0 ∧ Below w.heap.size w w' := by
  have g0 : ArrAt (w.alloc (.cells (WA .u8 32 key) 22)) w.heap.size .u8 22 32 key := heap_alloc_new w _
  have hB : Below w.heap.size w (w.alloc (.cells (WA .u8 32 key) 22)) := (Below.refl _ w).alloc (Nat.le_refl _) _
  have HL := Hid.mk (low_r hk)
  have HH := Hid.mk (high_r hk)
  have HK0 : Hid (Byts 8 key) := Hid.mk (fun i hi => hk i (by omega))
  have HK8 : Hid (Byts 8 (fun j => key (8 + j))) := Hid.mk (fun i hi => hk (8 + i) (by omega))
  have HK16 : Hid (Byts 8 (fun j => key (16 + j))) := Hid.mk (fun i hi => hk (16 + i) (by omega))
  have HK24 : Hid (Byts 8 (fun j => key (24 + j))) := Hid.mk (fun i hi => hk (24 + i) (by omega))
  have HR0 := Hid.mk (dval8_b (s := rdig key) (fun i hi => rdig_b hk i (by omega)))
  have HR8 := Hid.mk (dval8_b (s := fun j => rdig key (8 + j)) (fun i hi => rdig_b hk (8 + i) (by omega)))
  have HS := Hid.mk (st_new hk f)
  go_enter Try.func12, Try.ntmps12
  go_wp2_with fail
  refine wp_region_steps (fun v => ArrAt v w.heap.size .u8 22 32 key ∧ Below w.heap.size w v) (fun v v' => Below v.heap.size v v') (knM [some (.slice (some ⟨w.heap.size, 0, none⟩) 8 32), some (.int .u64 (dval (key) 8)), some (.int .u64 (dval (rdig key) 8)), some (.slice (some ⟨w.heap.size, 8, none⟩) 8 24), some (.int .u64 (dval (fun j => key (8 + j)) 8)), some (.int .u64 (dval (fun j => rdig key (8 + j)) 8)), some (.agg (WA .u64 5 (rL key))), some (.slice (some ⟨w.heap.size, 16, none⟩) 8 16), some (.int .u64 (dval (fun j => key (16 + j)) 8)), some (.slice (some ⟨w.heap.size, 24, none⟩) 8 8), some (.int .u64 (dval (fun j => key (24 + j)) 8)), some (.agg (WA .u64 2 (sL key))), some (.agg (macC (rL key) (sL key) (fun _ => 0) (fun _ => 0) 0)), none, none] (fun v u => ∃ b, w.heap.size ≤ b ∧ v = .pointer (some ⟨b, 0, none⟩) ∧ MacAt u b (rL key) (sL key) (fun _ => 0) (fun _ => 0) 0)) [3, 4, 5, 6, 7, 8, 9, 10, 11, 12, 13, 14, 15, 16, 2]
    [(1, .pointer (some ⟨w.heap.size, 0, none⟩))] [[], [0], [1], [], [3], [4], [2, 5], [], [7], [], [9], [8, 10], [6, 11], [12], [13]] rfl (by kernel_rfl) ⟨rfl, trivial⟩ ⟨g0.drew, Below.drew hB⟩ (fun v v' h hb => ⟨h.1.kept hb, h.2.trans (hb.mono h.2.size)⟩) (knM_keeps (fun v u u' ⟨b, h1, h2, h3⟩ hb => ⟨b, h1, h2, h3.kept hb⟩))
    ⟨
      -- 0
      (fun Q a1 ww hS fr kn => ⟨trivial, fun K hK => wp_value (exec_slH rfl fr.1 rfl (sl32a _ _)) (hK _ _ rfl (Below.refl _ _))⟩),
      -- 1
      (fun Q a1 ww hS fr kn => ⟨trivial, fun K hK => stepc enterWord rfl (args1 kn.1) (pword_run w.heap.size 0 32 (key) ww HK0.out (fun j hj => by rw [Nat.zero_add]; exact hS.1.cell j (by omega))) (fun w' hb => hK _ _ rfl hb)⟩),
      -- 2
      (fun Q a1 ww hS fr kn => ⟨trivial, fun K hK => wp_value (exec_and64 rfl kn.1 rfl) (hK _ _ (congrArg (Value.int .u64) HL.out) (Below.refl _ _))⟩),
      -- 3
      (fun Q a1 ww hS fr kn => ⟨trivial, fun K hK => wp_value (exec_slLH rfl fr.1 rfl rfl (sl32b _ _)) (hK _ _ rfl (Below.refl _ _))⟩),
      -- 4
      (fun Q a1 ww hS fr kn => ⟨trivial, fun K hK => stepc enterWord rfl (args1 kn.1) (pword_run w.heap.size 8 24 (fun j => key (8 + j)) ww HK8.out (fun j hj => hS.1.cell (8 + j) (by omega))) (fun w' hb => hK _ _ rfl hb)⟩),
      -- 5
      (fun Q a1 ww hS fr kn => ⟨trivial, fun K hK => wp_value (exec_and64 rfl kn.1 rfl) (hK _ _ (congrArg (Value.int .u64) HH.out) (Below.refl _ _))⟩),
      -- 6
      (fun Q a1 ww hS fr kn => ⟨trivial, fun K hK => stepc enterLimbs rfl (args3 kn.1 kn.2.1 rfl) (limbsOf_run _ _ 0 ww HR0.out HR8.out (by omega)) (fun w' hb => hK _ _ rfl hb)⟩),
      -- 7
      (fun Q a1 ww hS fr kn => ⟨trivial, fun K hK => wp_value (exec_slLH rfl fr.1 rfl rfl (sl32c _ _)) (hK _ _ rfl (Below.refl _ _))⟩),
      -- 8
      (fun Q a1 ww hS fr kn => ⟨trivial, fun K hK => stepc enterWord rfl (args1 kn.1) (pword_run w.heap.size 16 16 (fun j => key (16 + j)) ww HK16.out (fun j hj => hS.1.cell (16 + j) (by omega))) (fun w' hb => hK _ _ rfl hb)⟩),
      -- 9
      (fun Q a1 ww hS fr kn => ⟨trivial, fun K hK => wp_value (exec_slL rfl fr.1 rfl (sl32d _ _)) (hK _ _ rfl (Below.refl _ _))⟩),
      -- 10
      (fun Q a1 ww hS fr kn => ⟨trivial, fun K hK => stepc enterWord rfl (args1 kn.1) (pword_run w.heap.size 24 8 (fun j => key (24 + j)) ww HK24.out (fun j hj => hS.1.cell (24 + j) (by omega))) (fun w' hb => hK _ _ rfl hb)⟩),
      -- 11
      (fun Q a1 ww hS fr kn => ⟨trivial, fun K hK => wp_value (exec_build2 rfl kn.1 kn.2.1) (hK _ _ rfl (Below.refl _ _))⟩),
      -- 12
      (fun Q a1 ww hS fr kn => ⟨trivial, fun K hK => wp_value (exec_buildM rfl kn.1 kn.2.1) (hK _ _ rfl (Below.refl _ _))⟩),
      -- 13
      (fun Q a1 ww hS fr kn => ⟨trivial, fun K hK => act_boxM rfl kn.1 (fun w' hg hb => hK _ _ ⟨_, hS.2.size, rfl, hg⟩ hb)⟩),
      -- 14
      (fun Q a1 ww hS fr kn => ⟨trivial, fun K hK => wp_value (exec_assign rfl rfl) (hK _ _ kn.1 (Below.refl _ _))⟩),
      trivial⟩ ?_
  intro vs v1 hS1 hk1
  obtain ⟨b, h1, h2, h3⟩ := hk1 14 (by decide)
  change vs 2 = _ at h2
  simp only [putAll, Act.put, List.setIfInBounds_toArray, List.set_cons_zero, List.set_cons_succ, h2]
  clear hk1 h2
  go_wp2_with fail
  go_ret
  exact ⟨b, h1, rfl, ⟨_, _, _, _, h3, HS.out⟩, hS1.2⟩
end Go.Proofs.Ytfbeclleeehaaaa
