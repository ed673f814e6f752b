/-
  Own text. SessionOnce: the laws of its single operations.
-/
import Derived.Test.YtbkbcfimpaolmaaSYA
namespace Go.Proofs.Ytbkbcfimpaolmaa
open Go.RowKit Go.Proofs
set_option maxRecDepth 100000
-- steps of a script
theorem stpV_one (x : Int × Int × Int × Bool) (j : Nat) : (stpV x j).oneCell' = true := by unfold stpV; (repeat' split) <;> rfl
theorem isStp : IsSt 30 4 := ⟨_, Try.underlying30, rfl, by kernel_rfl⟩
theorem zeroStp (w : World) : (zeroValue 30).run Try.prog w = .ok (.agg (SC 4 (stpV (0, 0, 0, false)))) w := by kernel_rfl
theorem exec_ixStp {a : Act} {o : Oper} {w : World} {x y : Operand} (ho : o.op = .indexAddr 22 x y) {p : Addr} {n c i : Nat} (hx : a.eval x = .slice (some p) n c) (hy : a.eval y = .int .i64 (i : Int)) (hi : i < n) : (execOp a.eval o).run Try.prog w = .ok (.value (.pointer (some (p.add (4 * i))))) w := by
  unfold execOp
  simp only [ho, hx, hy, Sem.run_bind]
  rw [run_indexAt_slice w 22 _ n c .i64 (i : Int) Try.underlying22, if_pos ⟨by omega, by omega⟩, show (sizeOf (Try.prog.elem 22)).run Try.prog w = .ok 4 w by kernel_rfl]
  simp [Nat.mul_comm]
theorem exec_ldStp {a : Act} {o : Oper} {w : World} {x : Operand} (ho : o.op = .load 30 x) {p : Addr} {X : Int × Int × Int × Bool} (hx : a.eval x = .pointer (some p)) (hc : ∀ k, k < 4 → w.cell? (p.add k) = some (stpV X k)) : (execOp a.eval o).run Try.prog w = .ok (.value (.agg (SC 4 (stpV X)))) w := by
  have h := run_loadAt_addr w p 30 (SC 4 (stpV X)).toList _ (fun j v hv => by
    have hj : j < 4 := by have := (List.getElem?_eq_some_iff.1 hv).1; rwa [Array.length_toList, SC_size] at this
    rw [hc j hj, ← SC_get 4 _ j hj, ← Array.getElem?_toList, hv]) Try.underlying30 rfl (by rw [Array.length_toList, SC_size]; kernel_rfl)
  exact exec_ld ho hx h
theorem StepsAt.at {w w' : World} {v : Value} {n : Nat} {X : Nat → Int × Int × Int × Bool} (h : StepsAt w v n X) (hB : Below w.heap.size w w') (j : Nat) (hj : j < n) : ∃ ad cap, v = .slice (some ad) n cap ∧ (∀ k, k < 4 → w'.cell? ((ad.add (4 * j)).add k) = some (stpV (X j) k)) ∧ I9 (X j).1 ∧ I9 (X j).2.1 ∧ I9 (X j).2.2.1 := by
  obtain ⟨a, cap, rfl, h⟩ := h
  obtain ⟨⟨ad, rfl, hb, hc⟩, h2⟩ := h j hj
  refine ⟨ad, cap, rfl, fun k hk => ?_, h2⟩
  rw [Addr.add_add, hB.cell (p := ad.add (4 * j + k)) (by rw [add_blk]; exact hb)]
  exact hc k hk
section
variable {w : World} {g : Nat} {X : Int × Int × Int × Bool}
theorem stp_k (h : SAt w g 30 4 (stpV X)) : w.cell? ⟨g, 0, none⟩ = some (.int .i64 X.1) := SAt.at h 0 (by omega)
theorem stp_w (h : SAt w g 30 4 (stpV X)) : w.cell? ⟨g, 1, none⟩ = some (.int .i64 X.2.1) := SAt.at h 1 (by omega)
theorem stp_a (h : SAt w g 30 4 (stpV X)) : w.cell? ⟨g, 2, none⟩ = some (.int .i64 X.2.2.1) := SAt.at h 2 (by omega)
theorem stp_e (h : SAt w g 30 4 (stpV X)) : w.cell? ⟨g, 3, none⟩ = some (.bool X.2.2.2) := SAt.at h 3 (by omega)
end
-- which of n things
def pkF (c n : Int) : Int := (if c < 0 then -(c + 1) else c).tmod n
theorem pkF_range {c n : Int} (hn : 1 ≤ n) : 0 ≤ pkF c n ∧ pkF c n < n := by
  have h : 0 ≤ (if c < 0 then -(c + 1) else c) := by split <;> omega
  unfold pkF
  exact ⟨Int.tmod_nonneg n h, Int.tmod_lt_of_pos _ (by omega)⟩
set_option maxHeartbeats 1000000 in
theorem pick9_run (c n : Int) (w : World) (hc : I9 c) (hn : 1 ≤ n ∧ n < 1000000) : Calls Try.prog 10 #[.int .i64 c, .int .i64 n] w fun e w' => e = .returned (.int .i64 (pkF c n)) ∧ w' = w := by
  unfold I9 at hc
  unfold pkF
  have hn0 : ¬ n = 0 := by omega
  by_cases h : c < 0
  · rw [if_pos h]
    go_enter Try.func10, Try.ntmps10
    go_wp2
    go_ret
    exact ⟨by rw [Int.neg_tmod]; rfl, rfl⟩
  · rw [if_neg h]
    go_enter Try.func10, Try.ntmps10
    go_wp2
    go_ret
    exact ⟨by rw [Int.tmod_eq_emod_of_nonneg (by omega)]; rfl, rfl⟩
theorem enterPick9 (args : Array Value) (w : World) : (callFunc 10 args).run Try.prog w = .ok (.enter 10 args) w := by kernel_rfl
theorem enterPut9 (args : Array Value) (w : World) : (callFunc 12 args).run Try.prog w = .ok (.enter 12 args) w := by kernel_rfl
theorem enterMirror9 (args : Array Value) (w : World) : (callFunc 13 args).run Try.prog w = .ok (.enter 13 args) w := by kernel_rfl
-- the arrays of two
theorem exec_ix2s {a : Act} {o : Oper} {w : World} {x y : Operand} (ho : o.op = .indexAddr 25 x y) {b e : Nat} (hx : a.eval x = .pointer (some ⟨b, 0, none⟩)) (hy : a.eval y = .int .i64 (e : Int)) (he : e < 2) : (execOp a.eval o).run Try.prog w = .ok (.value (.pointer (some ⟨b, e, none⟩))) w :=
  exec_idxA ho Try.underlying25 rfl (fun w => by kernel_rfl) hx hy he
theorem exec_ix2w {a : Act} {o : Oper} {w : World} {x y : Operand} (ho : o.op = .indexAddr 28 x y) {b e : Nat} (hx : a.eval x = .pointer (some ⟨b, 0, none⟩)) (hy : a.eval y = .int .i64 (e : Int)) (he : e < 2) : (execOp a.eval o).run Try.prog w = .ok (.value (.pointer (some ⟨b, e, none⟩))) w :=
  exec_idxA ho Try.underlying28 rfl (fun w => by kernel_rfl) hx hy he
theorem ld_ses {w : World} {p : Addr} {n : Option Addr} (h : w.cell? p = some (.pointer n)) : (Instr.loadAt 24 (.pointer (some p))).run Try.prog w = .ok (.pointer n) w := by simp [go_sem, h]
theorem ld_els {w : World} {p : Addr} {v : Value} (h : w.cell? p = some v) : (Instr.loadAt 27 (.pointer (some p))).run Try.prog w = .ok v w := by simp [go_sem, h]
theorem exec_lenE {a : Act} {o : Oper} {w : World} {x : Operand} (ho : o.op = .call { callee := .builtin .len, args := #[x], argTypes := #[27] }) {ad : Option Addr} {n c : Nat} (hx : a.eval x = .slice ad n c) : (execOp a.eval o).run Try.prog w = .ok (.value (.int .i64 (n : Int))) w := by
  have hr : (Builtin.len_ #[27] o.type #[.slice ad n c]).run Try.prog w = .ok (goInt n) w := by simp [go_sem]
  simp [execOp, ho, resolve, invoke, builtin, hx, hr, goInt]
theorem exec_ixE {a : Act} {o : Oper} {w : World} {x y : Operand} (ho : o.op = .indexAddr 27 x y) {g n c i : Nat} (hx : a.eval x = .slice (some ⟨g, 0, none⟩) n c) (hy : a.eval y = .int .i64 (i : Int)) (hi : i < n) : (execOp a.eval o).run Try.prog w = .ok (.value (.pointer (some ⟨g, 5 * i, none⟩))) w := by
  unfold execOp
  simp only [ho, hx, hy, Sem.run_bind]
  rw [run_indexAt_slice w 27 _ n c .i64 (i : Int) Try.underlying27, if_pos ⟨by omega, by omega⟩, show (sizeOf (Try.prog.elem 27)).run Try.prog w = .ok 5 w by kernel_rfl]
  simp [Addr.add_lit, Nat.mul_comm]
theorem exec_ldE {a : Act} {o : Oper} {w : World} {x : Operand} (ho : o.op = .load 46 x) {g i : Nat} {y : El} (hx : a.eval x = .pointer (some ⟨g, 5 * i, none⟩)) (hc : ∀ f, f < 5 → w.cell? ⟨g, 5 * i + f, none⟩ = some (elV y f)) : (execOp a.eval o).run Try.prog w = .ok (.value (.agg (SC 5 (elV y)))) w := by
  have h := run_loadAt_addr w ⟨g, 5 * i, none⟩ 46 (SC 5 (elV y)).toList _ (fun j v hv => by
    have hj : j < 5 := by have := (List.getElem?_eq_some_iff.1 hv).1; rwa [Array.length_toList, SC_size] at this
    rw [Addr.add_lit, hc j hj, ← SC_get 5 _ j hj, ← Array.getElem?_toList, hv]) Try.underlying46 rfl (by rw [Array.length_toList, SC_size]; kernel_rfl)
  exact exec_ld ho hx h
theorem run_fel (b o k : Nat) (w : World) : k < 5 → (Instr.fieldAt 46 (.pointer (some ⟨b, o, none⟩)) k).run Try.prog w = .ok (.pointer (some ⟨b, o + k, none⟩)) w := by
  intro hk
  match k, hk with
  | 0, _ => simp [go_sem]
  | 1, _ => simp [go_sem]
  | 2, _ => simp [go_sem]
  | 3, _ => simp [go_sem]
  | 4, _ => simp [go_sem]
theorem exec_fel {a : Act} {o : Oper} {w : World} {x : Operand} {k : Nat} (ho : o.op = .fieldAddr 46 x k) {b f : Nat} (hx : a.eval x = .pointer (some ⟨b, f, none⟩)) (hk : k < 5) : (execOp a.eval o).run Try.prog w = .ok (.value (.pointer (some ⟨b, f + k, none⟩))) w := by
  have h := run_fel b f k w hk
  unfold execOp
  simp only [ho, hx, Sem.run_bind, h, Result.andThen_ok, Sem.run_pure]
theorem run_fstp (b o k : Nat) (w : World) : k < 4 → (Instr.fieldAt 30 (.pointer (some ⟨b, o, none⟩)) k).run Try.prog w = .ok (.pointer (some ⟨b, o + k, none⟩)) w := by
  intro hk
  match k, hk with
  | 0, _ => simp [go_sem]
  | 1, _ => simp [go_sem]
  | 2, _ => simp [go_sem]
  | 3, _ => simp [go_sem]
theorem exec_fstp {a : Act} {o : Oper} {w : World} {x : Operand} {k : Nat} (ho : o.op = .fieldAddr 30 x k) {b f : Nat} (hx : a.eval x = .pointer (some ⟨b, f, none⟩)) (hk : k < 4) : (execOp a.eval o).run Try.prog w = .ok (.value (.pointer (some ⟨b, f + k, none⟩))) w := by
  have h := run_fstp b f k w hk
  unfold execOp
  simp only [ho, hx, Sem.run_bind, h, Result.andThen_ok, Sem.run_pure]
section
variable {w : World} {g : Nat} {y : El}
theorem el_t (h : SAt w g 46 5 (elV y)) : w.cell? ⟨g, 0, none⟩ = some (.string y.text) := SAt.at h 0 (by omega)
theorem el_b (h : SAt w g 46 5 (elV y)) : w.cell? ⟨g, 1, none⟩ = some (.string y.box) := SAt.at h 1 (by omega)
theorem el_i (h : SAt w g 46 5 (elV y)) : w.cell? ⟨g, 2, none⟩ = some (.int .u32 y.idx) := SAt.at h 2 (by omega)
theorem el_c (h : SAt w g 46 5 (elV y)) : w.cell? ⟨g, 3, none⟩ = some (.int .u64 y.ctr) := SAt.at h 3 (by omega)
theorem el_d (h : SAt w g 46 5 (elV y)) : w.cell? ⟨g, 4, none⟩ = some (.bool y.done) := SAt.at h 4 (by omega)
end
theorem exec_oth {a : Act} {o : Oper} {w : World} {x y : Operand} (ho : o.op = .binOp .sub 3 x y 3) (hx : a.eval x = .int .i64 1) {e f : Nat} (hy : a.eval y = .int .i64 (e : Int)) (h : e + f = 1) : (execOp a.eval o).run Try.prog w = .ok (.value (.int .i64 (f : Int))) w := by
  have := exec_subI (w := w) ho hx hy (by omega) (by omega)
  rw [show (1 : Int) - (e : Int) = (f : Int) by omega] at this
  exact this
-- a box is made
theorem run_el4 (t b : ByteArray) (i c : Int) (w : World) : (Instr.build 46 #[(0, .string t), (1, .string b), (2, .int .u32 i), (3, .int .u64 c)]).run Try.prog w = .ok (.agg (SC 5 (elV ⟨t, b, i, c, false⟩))) w := by kernel_rfl
theorem exec_el4 {a : Act} {o : Oper} {w : World} {x y z u : Operand} (ho : o.op = .build 46 #[(0, x), (1, y), (2, z), (3, u)]) {t b : ByteArray} {i c : Int} (hx : a.eval x = .string t) (hy : a.eval y = .string b) (hz : a.eval z = .int .u32 i) (hu : a.eval u = .int .u64 c) : (execOp a.eval o).run Try.prog w = .ok (.value (.agg (SC 5 (elV ⟨t, b, i, c, false⟩)))) w := by
  have h := run_el4 t b i c w
  unfold execOp
  simp only [ho, List.map_toArray, List.map_cons, List.map_nil, hx, hy, hz, hu, Sem.run_bind, h, Result.andThen_ok, Sem.run_pure]
theorem run_bsE (V : Nat → Value) (w : World) : (Instr.buildSlice 27 1 #[(0, .agg (SC 5 V))]).run Try.prog w = .ok (.slice (some ⟨w.heap.size, 0, none⟩) 1 1) (w.alloc (.cells (SC 5 V) 46)) := by kernel_rfl
-- three bytes as a text
theorem str_back9 (b n : Nat) (w : World) (f : Nat → Int) (hf : ∀ j, j < n → 0 ≤ f j ∧ f j < 256) (hc : ∀ j, j < n → w.cell? ⟨b, j, none⟩ = some (.int .u8 (f j))) {cp : Nat} : (convert 41 9 (.slice (some ⟨b, 0, none⟩) n cp)).run Try.prog w = .ok (.string (mkS n f)) w := by
  have h := run_convert_bytes_back (P := Try.prog) w 41 9 5 ⟨b, 0, none⟩ cp (bytesL n f) Try.underlying41 Try.underlying5 Try.underlying9 (fun j hj => by
    rw [bytesL_len] at hj
    rw [Addr.add_lit, Nat.zero_add, hc j hj]
    have := hf j hj
    simp [bytesL]
    omega)
  rw [bytesL_len] at h
  exact h
theorem run_bs3 (p q r : Int) (w : World) : (Instr.buildSlice 41 3 #[(0, .int .u8 p), (1, .int .u8 q), (2, .int .u8 r)]).run Try.prog w = .ok (.slice (some ⟨w.heap.size, 0, none⟩) 3 3) (w.alloc (.cells #[.int .u8 p, .int .u8 q, .int .u8 r] 5)) := by kernel_rfl
def thr (p q r : Int) (j : Nat) : Int := if j = 0 then p else if j = 1 then q else r
theorem exec_cv8 {a : Act} {o : Oper} {w : World} {x : Operand} (ho : o.op = .convert 3 5 x) {m : Int} (hx : a.eval x = .int .i64 m) : (execOp a.eval o).run Try.prog w = .ok (.value (.int .u8 (m % 256))) w := by
  refine exec_conv ho hx ?_
  simp [go_sem]
  rw [IntKind.wrap_u8]
theorem mod256 (m : Int) : 0 ≤ m % 256 ∧ m % 256 < 256 := by omega
end Go.Proofs.Ytbkbcfimpaolmaa
