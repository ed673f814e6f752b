/-
  Own text. Messages, versions and problems in memory; laws of single operations.
-/
import Derived.Test.YtojekoakgpkkdaaDoorJE5
import Derived.Test.YtojekoakgpkkdaaDoorJE3
import Derived.Test.YtojekoakgpkkdaaDoorRows
import Derived.Test.YtojekoakgpkkdaaDoorTie
import Derived.Test.YtojekoakgpkkdaaDoorCards
import Derived.ProofKit
import Derived.LaidMore
import Derived.OpenShut
import Derived.Stop.Joined
import Derived.SevenTiedAt
import Derived.Deep.DeepHandedRow
import Derived.Lib.LaidU8
import Derived.Maps.RangeRun
import Derived.Shelf.Strings.OnBuilder
import Derived.Shelf.LaysM
import Derived.Test.YtojekoakgpkkdaaDoorProg
namespace Go.Proofs.YtojekoakgpkkdaaDoor
open Go.RowKit Go.Proofs
set_option maxRecDepth 100000
theorem isMs : IsSt 27 4 := ⟨_, Tryd.underlying27, rfl, by kernel_rfl⟩
theorem zeroMs (w : World) : (zeroValue 27).run Tryd.prog w = .ok (.agg (SC 4 (msV ms0))) w := by kernel_rfl
/-- What an error message says of its kind. -/
def erV (v : Bool) (k : Nat) : Nat → Value
  | 0 => .int .i64 (if k = 0 then 0 else codT v (k : Int))
  | 1 => .int .i64 (if k = 0 then 0 else codC v (k : Int))
  | _ => .int .u32 (((if k = 6 ∧ v = true then 6 else 0 : Nat)) : Int)
theorem erV_one (v : Bool) (k j : Nat) : (erV v k j).oneCell' = true := by unfold erV; split <;> rfl
def leastK (v : Bool) : Int := if v = true then 1280 else 576
def verV (v : Bool) (j : Nat) : Value := if j = 0 then .int .i64 (protoK v) else if j = 1 then .int .u8 (if v = true then 6 else 4) else if j = 2 then .int .i64 (hdN v : Int) else if j = 3 then .int .i64 (wdN v : Int) else if j = 4 then .int .i64 (leastK v) else if j = 5 then .int .i64 (askK v) else if j = 6 then .int .i64 (sayK v) else erV v ((j - 7) / 3) ((j - 7) % 3)
theorem verV_one (v : Bool) (j : Nat) : (verV v j).oneCell' = true := by
  unfold verV
  repeat' split
  all_goals first | rfl | exact erV_one _ _ _
theorem isVe : IsSt 83 28 := ⟨_, Tryd.underlying83, rfl, by kernel_rfl⟩
theorem isEr : IsSt 80 3 := ⟨_, Tryd.underlying80, rfl, by kernel_rfl⟩
theorem zeroVe (w : World) : (zeroValue 83).run Tryd.prog w = .ok (.agg (SC 28 (fun j => if j = 1 then .int .u8 0 else if j < 7 then .int .i64 0 else if j % 3 = 0 then .int .u32 0 else .int .i64 0))) w := by kernel_rfl
theorem zeroEr (w : World) : (zeroValue 80).run Tryd.prog w = .ok (.agg (SC 3 (erV false 0))) w := by kernel_rfl
/-- What the package's variables hold. -/
def Env (w : World) : Prop := (∀ j, j < 28 → w.cell? ⟨1, j, none⟩ = some (verV false j)) ∧ (∀ j, j < 28 → w.cell? ⟨0, j, none⟩ = some (verV true j)) ∧ ∀ j, j < 5 → w.cell? ⟨2, j, none⟩ = some (.int .u8 (([3, 4, 5, 11, 12] : List Int).getD j 0))
theorem Env.kept {w w' : World} (h : Env w) (hb : Below w.heap.size w w') : Env w' := by
  have h4 : 1 < w.heap.size := World.block_lt_of_cell? w _ (h.1 0 (by decide))
  have h6 : 0 < w.heap.size := World.block_lt_of_cell? w _ (h.2.1 0 (by decide))
  have h5 : 2 < w.heap.size := World.block_lt_of_cell? w _ (h.2.2 0 (by decide))
  exact ⟨fun j hj => (World.cell?_of_block (hb.block _ h4)).trans (h.1 j hj), fun j hj => (World.cell?_of_block (hb.block _ h6)).trans (h.2.1 j hj), fun j hj => (World.cell?_of_block (hb.block _ h5)).trans (h.2.2 j hj)⟩
theorem ld_cells {w : World} {g n : Nat} {ty : TypeId} {V : Nat → Value} (hA : IsSt ty n) (h : ∀ j, j < n → w.cell? ⟨g, j, none⟩ = some (V j)) : (Instr.loadAt ty (.pointer (some ⟨g, 0, none⟩))).run Tryd.prog w = .ok (.agg (SC n V)) w := by
  obtain ⟨u, h1, h2, h3⟩ := hA
  refine run_loadAt_addr w ⟨g, 0, none⟩ ty ((List.range n).map V) _ (fun j y hj => ?_) h1 (by cases u <;> first | rfl | exact h2) (by rw [List.length_map, List.length_range]; exact h3)
  rw [List.getElem?_map] at hj
  have hl : j < n := by
    rcases Nat.lt_or_ge j n with h | h
    · exact h
    · rw [List.getElem?_eq_none (by simpa using h)] at hj; cases hj
  rw [List.getElem?_range hl] at hj
  rw [Addr.add_lit, Nat.zero_add, h j hl]
  exact hj
section
variable {a : Act} {o : Oper} {w : World} {x y : Operand}
theorem exec_ldV4 (hE : Env w) (ho : o.op = .load 83 (.global 1)) : (execOp a.eval o).run Tryd.prog w = .ok (.value (.agg (SC 28 (verV false)))) w := exec_ld (x := .global 1) ho (by rfl) (ld_cells isVe hE.1)
theorem exec_ldV6 (hE : Env w) (ho : o.op = .load 83 (.global 0)) : (execOp a.eval o).run Tryd.prog w = .ok (.value (.agg (SC 28 (verV true)))) w := exec_ld (x := .global 0) ho (by rfl) (ld_cells isVe hE.2.1)
theorem exec_fms (k : Nat) (hk : k < 4) (ho : o.op = .fieldAddr 27 x k) {g : Nat} (hx : a.eval x = .pointer (some ⟨g, 0, none⟩)) : (execOp a.eval o).run Tryd.prog w = .ok (.value (.pointer (some ⟨g, k, none⟩))) w := by
  have h : (Instr.fieldAt 27 (.pointer (some ⟨g, 0, none⟩)) k).run Tryd.prog w = .ok (.pointer (some ⟨g, k, none⟩)) w := by
    match k, hk with
    | 0, _ => simp [go_sem]
    | 1, _ => simp [go_sem]
    | 2, _ => simp [go_sem]
    | 3, _ => simp [go_sem]
  unfold execOp
  simp only [ho, hx, Sem.run_bind, h, Result.andThen_ok, Sem.run_pure]
theorem exec_fer (k : Nat) (hk : k < 3) (ho : o.op = .fieldAddr 80 x k) {g : Nat} (hx : a.eval x = .pointer (some ⟨g, 0, none⟩)) : (execOp a.eval o).run Tryd.prog w = .ok (.value (.pointer (some ⟨g, k, none⟩))) w := by
  have h : (Instr.fieldAt 80 (.pointer (some ⟨g, 0, none⟩)) k).run Tryd.prog w = .ok (.pointer (some ⟨g, k, none⟩)) w := by
    match k, hk with
    | 0, _ => simp [go_sem]
    | 1, _ => simp [go_sem]
    | 2, _ => simp [go_sem]
  unfold execOp
  simp only [ho, hx, Sem.run_bind, h, Result.andThen_ok, Sem.run_pure]
theorem exec_fve (k : Nat) (hk : k < 8) (ho : o.op = .fieldAddr 83 x k) {g : Nat} (hx : a.eval x = .pointer (some ⟨g, 0, none⟩)) : (execOp a.eval o).run Tryd.prog w = .ok (.value (.pointer (some ⟨g, k, none⟩))) w := by
  have h : (Instr.fieldAt 83 (.pointer (some ⟨g, 0, none⟩)) k).run Tryd.prog w = .ok (.pointer (some ⟨g, k, none⟩)) w := by
    match k, hk with
    | 0, _ => simp [go_sem]
    | 1, _ => simp [go_sem]
    | 2, _ => simp [go_sem]
    | 3, _ => simp [go_sem]
    | 4, _ => simp [go_sem]
    | 5, _ => simp [go_sem]
    | 6, _ => simp [go_sem]
    | 7, _ => simp [go_sem]
  unfold execOp
  simp only [ho, hx, Sem.run_bind, h, Result.andThen_ok, Sem.run_pure]
theorem run_fv0 (v : Bool) (w : World) : (Instr.field 83 (.agg (SC 28 (verV v))) 0).run Tryd.prog w = .ok (.int .i64 (protoK v)) w := by kernel_rfl
theorem exec_fv0 (ho : o.op = .field 83 x 0) {v : Bool} (hx : a.eval x = .agg (SC 28 (verV v))) : (execOp a.eval o).run Tryd.prog w = .ok (.value (.int .i64 (protoK v))) w := by
  unfold execOp
  simp only [ho, hx, Sem.run_bind, run_fv0, Result.andThen_ok, Sem.run_pure]
theorem run_fv4 (v : Bool) (w : World) : (Instr.field 83 (.agg (SC 28 (verV v))) 4).run Tryd.prog w = .ok (.int .i64 (leastK v)) w := by kernel_rfl
theorem exec_fv4 (ho : o.op = .field 83 x 4) {v : Bool} (hx : a.eval x = .agg (SC 28 (verV v))) : (execOp a.eval o).run Tryd.prog w = .ok (.value (.int .i64 (leastK v))) w := by
  unfold execOp
  simp only [ho, hx, Sem.run_bind, run_fv4, Result.andThen_ok, Sem.run_pure]
theorem run_fv7 (v : Bool) (w : World) : (Instr.field 83 (.agg (SC 28 (verV v))) 7).run Tryd.prog w = .ok (.agg (SC 21 fun j => verV v (7 + j))) w := by kernel_rfl
theorem exec_fv7 (ho : o.op = .field 83 x 7) {v : Bool} (hx : a.eval x = .agg (SC 28 (verV v))) : (execOp a.eval o).run Tryd.prog w = .ok (.value (.agg (SC 21 fun j => verV v (7 + j)))) w := by
  unfold execOp
  simp only [ho, hx, Sem.run_bind, run_fv7, Result.andThen_ok, Sem.run_pure]
theorem run_ixv0 (v : Bool) (w : World) : (Instr.index 81 (.agg (SC 21 fun j => verV v (7 + j))) (.int .i64 0)).run Tryd.prog w = .ok (.agg (SC 3 (erV v 0))) w := by kernel_rfl
theorem run_ixv1 (v : Bool) (w : World) : (Instr.index 81 (.agg (SC 21 fun j => verV v (7 + j))) (.int .i64 1)).run Tryd.prog w = .ok (.agg (SC 3 (erV v 1))) w := by kernel_rfl
theorem run_ixv2 (v : Bool) (w : World) : (Instr.index 81 (.agg (SC 21 fun j => verV v (7 + j))) (.int .i64 2)).run Tryd.prog w = .ok (.agg (SC 3 (erV v 2))) w := by kernel_rfl
theorem run_ixv3 (v : Bool) (w : World) : (Instr.index 81 (.agg (SC 21 fun j => verV v (7 + j))) (.int .i64 3)).run Tryd.prog w = .ok (.agg (SC 3 (erV v 3))) w := by kernel_rfl
theorem run_ixv4 (v : Bool) (w : World) : (Instr.index 81 (.agg (SC 21 fun j => verV v (7 + j))) (.int .i64 4)).run Tryd.prog w = .ok (.agg (SC 3 (erV v 4))) w := by kernel_rfl
theorem run_ixv5 (v : Bool) (w : World) : (Instr.index 81 (.agg (SC 21 fun j => verV v (7 + j))) (.int .i64 5)).run Tryd.prog w = .ok (.agg (SC 3 (erV v 5))) w := by kernel_rfl
theorem run_ixv6 (v : Bool) (w : World) : (Instr.index 81 (.agg (SC 21 fun j => verV v (7 + j))) (.int .i64 6)).run Tryd.prog w = .ok (.agg (SC 3 (erV v 6))) w := by kernel_rfl
theorem run_ixv (v : Bool) (k : Nat) (hk : k < 7) (w : World) : (Instr.index 81 (.agg (SC 21 fun j => verV v (7 + j))) (.int .i64 (k : Int))).run Tryd.prog w = .ok (.agg (SC 3 (erV v k))) w := by
  match k, hk with
  | 0, _ => exact run_ixv0 v w
  | 1, _ => exact run_ixv1 v w
  | 2, _ => exact run_ixv2 v w
  | 3, _ => exact run_ixv3 v w
  | 4, _ => exact run_ixv4 v w
  | 5, _ => exact run_ixv5 v w
  | 6, _ => exact run_ixv6 v w
theorem exec_ixv {k : Nat} (ho : o.op = .index 81 x y) {v : Bool} (hx : a.eval x = .agg (SC 21 fun j => verV v (7 + j))) (hy : a.eval y = .int .i64 (k : Int)) (hk : k < 7) : (execOp a.eval o).run Tryd.prog w = .ok (.value (.agg (SC 3 (erV v k)))) w := by
  unfold execOp
  simp only [ho, hx, hy, Sem.run_bind, run_ixv v k hk, Result.andThen_ok, Sem.run_pure]
theorem exec_cv32U (ho : o.op = .convert 25 72 x) {m : Nat} (hx : a.eval x = .int .u32 (m : Int)) (h1 : m < 4294967296) : (execOp a.eval o).run Tryd.prog w = .ok (.value (.int .u64 (m : Int))) w := by
  have e : IntKind.u64.wrap (m : Int) = (m : Int) := by rw [IntKind.wrap_u64]; omega
  unfold execOp
  simp only [ho, hx]
  simp [go_sem, e]
theorem exec_cvU32 (ho : o.op = .convert 72 25 x) {m : Nat} (hx : a.eval x = .int .u64 (m : Int)) (h1 : m < 4294967296) : (execOp a.eval o).run Tryd.prog w = .ok (.value (.int .u32 (m : Int))) w := by
  have e : IntKind.u32.wrap (m : Int) = (m : Int) := by rw [IntKind.wrap_u32]; omega
  unfold execOp
  simp only [ho, hx]
  simp [go_sem, e]
theorem exec_cvI32 (ho : o.op = .convert 3 25 x) {m : Int} (hx : a.eval x = .int .i64 m) (h0 : 0 ≤ m) (h1 : m < 4294967296) : (execOp a.eval o).run Tryd.prog w = .ok (.value (.int .u32 ((m.toNat : Nat) : Int))) w := by
  have e : IntKind.u32.wrap m = ((m.toNat : Nat) : Int) := by rw [IntKind.wrap_u32]; omega
  unfold execOp
  simp only [ho, hx]
  simp [go_sem, e]
theorem run_bdMs0 (w : World) : (Instr.build 27 #[]).run Tryd.prog w = .ok (.agg (SC 4 (msV ms0))) w := by kernel_rfl
theorem exec_bdMs0 (ho : o.op = .build 27 #[]) : (execOp a.eval o).run Tryd.prog w = .ok (.value (.agg (SC 4 (msV ms0)))) w := by
  unfold execOp
  simp only [ho, List.map_toArray, List.map_nil, Sem.run_bind, run_bdMs0, Result.andThen_ok, Sem.run_pure]
theorem run_bdMs (m : Ms) (w : World) : (Instr.build 27 #[(0, .int .i64 m.typ), (1, .int .i64 m.code), (2, .int .u32 (m.rest : Int)), (3, .string m.body)]).run Tryd.prog w = .ok (.agg (SC 4 (msV m))) w := by kernel_rfl
theorem exec_bdMs {x0 x1 x2 x3 : Operand} (m : Ms) (ho : o.op = .build 27 #[(0, x0), (1, x1), (2, x2), (3, x3)]) (h0 : a.eval x0 = .int .i64 m.typ) (h1 : a.eval x1 = .int .i64 m.code) (h2 : a.eval x2 = .int .u32 (m.rest : Int)) (h3 : a.eval x3 = .string m.body) : (execOp a.eval o).run Tryd.prog w = .ok (.value (.agg (SC 4 (msV m)))) w := by
  unfold execOp
  simp only [ho, List.map_toArray, List.map_cons, List.map_nil, h0, h1, h2, h3, Sem.run_bind, run_bdMs, Result.andThen_ok, Sem.run_pure]
theorem run_bdPo (v1 : Bool) (b1 : Nat → Int) (v2 : Bool) (b2 : Nat → Int) (n : Int) (s : ByteArray) (w : World) : (Instr.build 39 #[(0, .agg (SC 17 (adV v1 b1))), (1, .agg (SC 17 (adV v2 b2))), (2, .int .i64 n), (3, .int .i64 64), (13, .string s)]).run Tryd.prog w = .ok (.agg (SC 46 (pkV ⟨v1, b1, v2, b2, n, 64, 0, 0, 0, false, false, ByteArray.empty, 0, [], false, s⟩ (.slice none 0 0)))) w := by kernel_rfl
theorem ldI {p : Addr} {n : Int} (h : w.cell? p = some (.int .i64 n)) : (Instr.loadAt 3 (.pointer (some p))).run Tryd.prog w = .ok (.int .i64 n) w := by simp [go_sem, h]
theorem ldB {p : Addr} {b : Bool} (h : w.cell? p = some (.bool b)) : (Instr.loadAt 4 (.pointer (some p))).run Tryd.prog w = .ok (.bool b) w := by simp [go_sem, h]
theorem ldS {p : Addr} {s : ByteArray} (h : w.cell? p = some (.string s)) : (Instr.loadAt 9 (.pointer (some p))).run Tryd.prog w = .ok (.string s) w := by simp [go_sem, h]
theorem ld32 {p : Addr} {n : Int} (h : w.cell? p = some (.int .u32 n)) : (Instr.loadAt 25 (.pointer (some p))).run Tryd.prog w = .ok (.int .u32 n) w := by simp [go_sem, h]
theorem exec_minI (ho : o.op = .call { callee := .builtin .min, args := #[x, y], argTypes := #[3, 3] }) {m n : Nat} (hx : a.eval x = .int .i64 (m : Int)) (hy : a.eval y = .int .i64 (n : Int)) : (execOp a.eval o).run Tryd.prog w = .ok (.value (.int .i64 ((min m n : Nat) : Int))) w := by
  have hr : (Builtin.min_ #[3, 3] o.type #[.int .i64 (m : Int), .int .i64 (n : Int)]).run Tryd.prog w = .ok (.int .i64 ((min m n : Nat) : Int)) w := by
    by_cases h : m ≤ n
    · rw [Nat.min_eq_left h]; simp [go_sem]; omega
    · rw [Nat.min_eq_right (by omega)]; simp [go_sem]; omega
  simp [execOp, ho, resolve, invoke, builtin, hx, hy, hr]
/-- A comparison whose outcome is known. -/
theorem kn_ {b c : Bool} (hb : Hid (b = c)) (h : (execOp a.eval o).run Tryd.prog w = .ok (.value (.bool b)) w) : (execOp a.eval o).run Tryd.prog w = .ok (.value (.bool c)) w := by rw [h, hb.out]
theorem kn_n {b c : Bool} (hb : Hid (b = !c)) (h : (execOp a.eval o).run Tryd.prog w = .ok (.value (.bool (!b))) w) : (execOp a.eval o).run Tryd.prog w = .ok (.value (.bool c)) w := by rw [h, hb.out, Bool.not_not]
end
section
variable {g f : Nat} {c : Value}
theorem sI (n : Int) : ∀ w : World, w.cell? ⟨g, f, none⟩ = some c → w.frozen? ⟨g, f, none⟩ = false → (Instr.storeAt 3 (.pointer (some ⟨g, f, none⟩)) (.int .i64 n)).run Tryd.prog w = .ok () (w.setCell ⟨g, f, none⟩ (.int .i64 n)) := fun w h1 h2 => by simp [go_sem, h1, h2]
theorem s32 (n : Int) : ∀ w : World, w.cell? ⟨g, f, none⟩ = some c → w.frozen? ⟨g, f, none⟩ = false → (Instr.storeAt 25 (.pointer (some ⟨g, f, none⟩)) (.int .u32 n)).run Tryd.prog w = .ok () (w.setCell ⟨g, f, none⟩ (.int .u32 n)) := fun w h1 h2 => by simp [go_sem, h1, h2]
end
/-- A field is written. -/
theorem wl_sF {ops : Array Oper} {rest : List Oper} {o : Oper} {a : Act} {w : World} {x y : Operand} {Q : Exit → Act → World → Prop} {t ty : TypeId} {n g f : Nat} {V V' : Nat → Value} {z : Value} (ho : o.op = .store t x y) (hw : Region.wanted o (yielded ops a.tmps) = true) (hx : a.eval x = .pointer (some ⟨g, f, none⟩)) (hy : a.eval y = z) (hf : f < n)
    (hr : ∀ w : World, w.cell? ⟨g, f, none⟩ = some (V f) → w.frozen? ⟨g, f, none⟩ = false → (Instr.storeAt t (.pointer (some ⟨g, f, none⟩)) z).run Tryd.prog w = .ok () (w.setCell ⟨g, f, none⟩ z)) (hg : SAt w g ty n V) (hV : ∀ i, i < n → (if i = f then z else V i) = V' i)
    (h : ∀ w', SAt w' g ty n V' → Only g w w' → wpList Tryd.prog ops Q rest (a.put o.dst undef) w') : wpList Tryd.prog ops Q (o :: rest) a w := by
  refine wl_act hw ?_
  have hr' := hr w (hg.at f hf) (frozen_of_row w _ f _ _ hg)
  unfold Oper.wp execOp
  simp only [ho, hx, hy, Sem.run_bind, hr', Result.andThen_ok, Sem.run_pure, Oper.upon]
  exact h _ ((hg.set f z hf).congr hV) only_set
theorem up2 {V V' : Nat → Value} {f : Nat} {z : Value} (h : (if 0 = f then z else V 0) = V' 0 ∧ (if 1 = f then z else V 1) = V' 1) : ∀ i, i < 2 → (if i = f then z else V i) = V' i := fun i hi => by
  match i, hi with
  | 0, _ => exact h.1
  | 1, _ => exact h.2
theorem up3 {V V' : Nat → Value} {f : Nat} {z : Value} (h : (if 0 = f then z else V 0) = V' 0 ∧ (if 1 = f then z else V 1) = V' 1 ∧ (if 2 = f then z else V 2) = V' 2) : ∀ i, i < 3 → (if i = f then z else V i) = V' i := fun i hi => by
  match i, hi with
  | 0, _ => exact h.1
  | 1, _ => exact h.2.1
  | 2, _ => exact h.2.2
theorem up4 {V V' : Nat → Value} {f : Nat} {z : Value} (h : (if 0 = f then z else V 0) = V' 0 ∧ (if 1 = f then z else V 1) = V' 1 ∧ (if 2 = f then z else V 2) = V' 2 ∧ (if 3 = f then z else V 3) = V' 3) : ∀ i, i < 4 → (if i = f then z else V i) = V' i := fun i hi => by
  match i, hi with
  | 0, _ => exact h.1
  | 1, _ => exact h.2.1
  | 2, _ => exact h.2.2.1
  | 3, _ => exact h.2.2.2
end Go.Proofs.YtojekoakgpkkdaaDoor

/-
  Own text. What the tied condition on the versions and the errors gives.
-/
namespace Go.Proofs.YtojekoakgpkkdaaDoor
open Go.ChangeShapes Go.WideShapes Go.ChangeAt Go.WideMaps Go.WideElems Go.RowKit Go.Proofs
set_option maxRecDepth 100000
theorem own : ownKnob Tryd.prog.godebug = none := by kernel_rfl
def laidP : List (String × DataW Unit) := Rows.icmpBytesRow.laid
theorem door_met (os : Os) (args : Array Value) : laidMet Tryd.prog laidP ((World.doorLaid Tryd.prog 400 os).forCall (fun _ _ => 0) ⟨#[], args, []⟩).memory :=
  laidMet_of_run' 8 (by kernel_rfl) (by kernel_rfl)
theorem g4V : Tryd.prog.globalNamed "adit/icmp.version4" = some 1 := by kernel_rfl
theorem g6V : Tryd.prog.globalNamed "adit/icmp.version6" = some 0 := by kernel_rfl
theorem gErr : Tryd.prog.globalNamed "adit/icmp.errors4" = some 2 := by kernel_rfl
theorem t4V : (Tryd.prog.globals[1]?).map (·.type) = some 83 := by kernel_rfl
theorem t6V : (Tryd.prog.globals[0]?).map (·.type) = some 83 := by kernel_rfl
theorem tErr : (Tryd.prog.globals[2]?).map (·.type) = some 144 := by kernel_rfl
theorem zcIn : Tryd.prog.cellsOf 3 = 1 := by kernel_rfl
theorem zc8 : Tryd.prog.cellsOf 5 = 1 := by kernel_rfl
theorem zc32 : Tryd.prog.cellsOf 25 = 1 := by kernel_rfl
theorem zcPr : Tryd.prog.cellsOf 80 = 3 := by kernel_rfl
theorem zcP7 : Tryd.prog.cellsOf 81 = 21 := by kernel_rfl
theorem veF : ∃ f0 f1 f2 f3 f4 f5 f6 f7 : Field, Tryd.prog.underlying 83 = some (.struct #[f0, f1, f2, f3, f4, f5, f6, f7]) ∧ (f0.type = 3 ∧ f0.offset = 0) ∧ (f1.type = 5 ∧ f1.offset = 1) ∧ (f2.type = 3 ∧ f2.offset = 2) ∧ (f3.type = 3 ∧ f3.offset = 3) ∧ (f4.type = 3 ∧ f4.offset = 4) ∧ (f5.type = 3 ∧ f5.offset = 5) ∧ (f6.type = 3 ∧ f6.offset = 6) ∧ (f7.type = 81 ∧ f7.offset = 7) := ⟨_, _, _, _, _, _, _, _, Tryd.underlying83, ⟨rfl, rfl⟩, ⟨rfl, rfl⟩, ⟨rfl, rfl⟩, ⟨rfl, rfl⟩, ⟨rfl, rfl⟩, ⟨rfl, rfl⟩, ⟨rfl, rfl⟩, ⟨rfl, rfl⟩⟩
theorem prF : ∃ f0 f1 f2 : Field, Tryd.prog.underlying 80 = some (.struct #[f0, f1, f2]) ∧ (f0.type = 3 ∧ f0.offset = 0) ∧ (f1.type = 3 ∧ f1.offset = 1) ∧ (f2.type = 25 ∧ f2.offset = 2) := ⟨_, _, _, Tryd.underlying80, ⟨rfl, rfl⟩, ⟨rfl, rfl⟩, ⟨rfl, rfl⟩⟩
theorem zk1 {cs : List Value} {o : Nat} {x : Value} (h : (cs.drop o).take 1 = [x]) : cs[o]? = some x := by
  have h1 : ((cs.drop o).take 1)[0]? = some x := by rw [h]; rfl
  rw [List.getElem?_take, if_pos (by omega), List.getElem?_drop] at h1
  simpa using h1
theorem zkN {cs : List Value} {o n i : Nat} (hi : i < n) : ((cs.drop o).take n)[i]? = cs[o + i]? := by
  rw [List.getElem?_take, if_pos hi, List.getElem?_drop]
/-- A kind's data. -/
def erD (v : Bool) (k : Nat) : DataW Unit := .agg [.lit (.int .i64 (if k = 0 then 0 else codT v (k : Int))), .lit (.int .i64 (if k = 0 then 0 else codC v (k : Int))), .lit (.int .u32 (((if k = 6 ∧ v = true then 6 else 0 : Nat)) : Int))]
def verD (v : Bool) : DataW Unit := .agg [.lit (.int .i64 (protoK v)), .lit (.int .u8 (if v = true then 6 else 4)), .lit (.int .i64 (hdN v : Int)), .lit (.int .i64 (wdN v : Int)), .lit (.int .i64 (leastK v)), .lit (.int .i64 (askK v)), .lit (.int .i64 (sayK v)), .agg [erD v 0, erD v 1, erD v 2, erD v 3, erD v 4, erD v 5, erD v 6]]
theorem ver4_data : (Rows.laid_adit_icmp_version4 : DataW Unit) = verD false := by kernel_rfl
theorem ver6_data : (Rows.laid_adit_icmp_version6 : DataW Unit) = verD true := by kernel_rfl
section
variable {w : World} {fuel : Nat} {cs : List Value} {p : List MemPlace}
/-- A cell that reads as a number. -/
theorem lit_cell {t : TypeId} {k : IntKind} (hu : Tryd.prog.underlying t = some (.int k)) {o : Nat} {y : DataW Unit × List MemPlace} (h : DataW.trod (fun _ => ()) Tryd.prog w 0 (fun _ => true) false fuel t ((cs.drop o).take 1) = some y) {z : Int} (hy : y.1 = .lit (.int k z)) : cs[o]? = some (.int k z) := by
  obtain ⟨z', hc, rfl, _⟩ := DataW.trod_int hu h
  have e : z' = z := by simpa using hy
  subst e
  exact zk1 hc
theorem er_cells {v : Bool} {k : Nat} {y : DataW Unit × List MemPlace} (h : DataW.trod (fun _ => ()) Tryd.prog w 0 (fun _ => true) false fuel 80 cs = some y) (hy : y.1 = erD v k) : ∀ i, i < 3 → cs[i]? = some (erV v k i) := by
  obtain ⟨f0, f1, f2, hu, ⟨e0, o0⟩, ⟨e1, o1⟩, ⟨e2, o2⟩⟩ := prF
  obtain ⟨xs, n, _, hx, hl, hxl, hff⟩ := DataW.trod_struct hu h
  obtain ⟨y0, y1, y2, rfl⟩ : ∃ y0 y1 y2, xs = [y0, y1, y2] := by
    match xs, hxl with
    | [a, b, c], _ => exact ⟨a, b, c, rfl⟩
  have hx1 : y.1 = .agg [y0.1, y1.1, y2.1] := congrArg Prod.fst hx
  rw [hy] at hx1
  unfold erD at hx1
  simp only [DataW.agg.injEq, List.cons.injEq, and_true] at hx1
  have g0 := hff 0 f0 rfl
  rw [e0, o0, zcIn] at g0
  have g1 := hff 1 f1 rfl
  rw [e1, o1, zcIn] at g1
  have g2 := hff 2 f2 rfl
  rw [e2, o2, zc32] at g2
  intro i hi
  match i, hi with
  | 0, _ => exact lit_cell Tryd.underlying3 g0 hx1.1.symm
  | 1, _ => exact lit_cell Tryd.underlying3 g1 hx1.2.1.symm
  | 2, _ => exact lit_cell Tryd.underlying25 g2 hx1.2.2.symm
theorem ver_cells {v : Bool} (h : DataW.trod (fun _ => ()) Tryd.prog w 0 (fun _ => true) false fuel 83 cs = some (verD v, p)) : ∀ j, j < 28 → cs[j]? = some (verV v j) := by
  obtain ⟨f0, f1, f2, f3, f4, f5, f6, f7, hu, ⟨e0, o0⟩, ⟨e1, o1⟩, ⟨e2, o2⟩, ⟨e3, o3⟩, ⟨e4, o4⟩, ⟨e5, o5⟩, ⟨e6, o6⟩, ⟨e7, o7⟩⟩ := veF
  obtain ⟨xs, n, _, hx, hl, hxl, hff⟩ := DataW.trod_struct hu h
  obtain ⟨y0, y1, y2, y3, y4, y5, y6, y7, rfl⟩ : ∃ y0 y1 y2 y3 y4 y5 y6 y7, xs = [y0, y1, y2, y3, y4, y5, y6, y7] := by
    match xs, hxl with
    | [a0, a1, a2, a3, a4, a5, a6, a7], _ => exact ⟨_, _, _, _, _, _, _, _, rfl⟩
  have hx1 : verD v = .agg [y0.1, y1.1, y2.1, y3.1, y4.1, y5.1, y6.1, y7.1] := congrArg Prod.fst hx
  unfold verD at hx1
  simp only [DataW.agg.injEq, List.cons.injEq, and_true] at hx1
  have g0 := hff 0 f0 rfl
  rw [e0, o0, zcIn] at g0
  have g1 := hff 1 f1 rfl
  rw [e1, o1, zc8] at g1
  have g2 := hff 2 f2 rfl
  rw [e2, o2, zcIn] at g2
  have g3 := hff 3 f3 rfl
  rw [e3, o3, zcIn] at g3
  have g4 := hff 4 f4 rfl
  rw [e4, o4, zcIn] at g4
  have g5 := hff 5 f5 rfl
  rw [e5, o5, zcIn] at g5
  have g6 := hff 6 f6 rfl
  rw [e6, o6, zcIn] at g6
  have g7 := hff 7 f7 rfl
  rw [e7, o7, zcP7] at g7
  obtain ⟨zs, m1, rfl, hz, hzl, hz7, hel⟩ := DataW.trod_array Tryd.underlying81 g7
  have hz1 : (DataW.agg (zs.map (·.1)) : DataW Unit) = .agg [erD v 0, erD v 1, erD v 2, erD v 3, erD v 4, erD v 5, erD v 6] := by
    have := hx1.2.2.2.2.2.2.2
    rw [this]
    have := congrArg Prod.fst hz
    exact this.symm
  simp only [DataW.agg.injEq] at hz1
  have her : ∀ k, k < 7 → ∀ i, i < 3 → cs[7 + (k * 3 + i)]? = some (erV v k i) := fun k hk i hi => by
    have h0 := hel k hk
    rw [zcPr] at h0
    have hkl : k < zs.length := by omega
    rw [List.getElem?_eq_getElem hkl] at h0
    have hy : (zs[k]).1 = erD v k := by
      have h1 : (zs.map (·.1))[k]? = some (zs[k]).1 := by rw [List.getElem?_map, List.getElem?_eq_getElem hkl]; rfl
      rw [hz1] at h1
      match k, hk with
      | 0, _ => exact (Option.some.inj h1).symm
      | 1, _ => exact (Option.some.inj h1).symm
      | 2, _ => exact (Option.some.inj h1).symm
      | 3, _ => exact (Option.some.inj h1).symm
      | 4, _ => exact (Option.some.inj h1).symm
      | 5, _ => exact (Option.some.inj h1).symm
      | 6, _ => exact (Option.some.inj h1).symm
    have h2 := er_cells h0 hy i hi
    rw [zkN hi, zkN (by omega)] at h2
    exact h2
  intro j hj
  by_cases h7 : j < 7
  · match j, h7 with
    | 0, _ => exact lit_cell Tryd.underlying3 g0 hx1.1.symm
    | 1, _ => exact lit_cell Tryd.underlying5 g1 hx1.2.1.symm
    | 2, _ => exact lit_cell Tryd.underlying3 g2 hx1.2.2.1.symm
    | 3, _ => exact lit_cell Tryd.underlying3 g3 hx1.2.2.2.1.symm
    | 4, _ => exact lit_cell Tryd.underlying3 g4 hx1.2.2.2.2.1.symm
    | 5, _ => exact lit_cell Tryd.underlying3 g5 hx1.2.2.2.2.2.1.symm
    | 6, _ => exact lit_cell Tryd.underlying3 g6 hx1.2.2.2.2.2.2.1.symm
  · have hk := her ((j - 7) / 3) (by omega) ((j - 7) % 3) (Nat.mod_lt _ (by decide))
    rw [show 7 + ((j - 7) / 3 * 3 + (j - 7) % 3) = j by omega] at hk
    rw [hk]
    unfold verV
    rw [if_neg (by omega), if_neg (by omega), if_neg (by omega), if_neg (by omega), if_neg (by omega), if_neg (by omega), if_neg (by omega)]
end
theorem var_cell {w : World} {n : String} {g : Nat} {cs : Array Value} (hg : Tryd.prog.globalNamed n = some g) (hv : w.var? Tryd.prog n = some cs) (j : Nat) : w.cell? ⟨g, j, none⟩ = cs.toList[j]? := by
  have h0 := World.var?_cell hg hv j
  rw [Array.getElem?_toList]
  exact h0
theorem env_of_laid {W : World} (h : laidMetH Tryd.prog laidP W) : Env W := by
  rw [MakeChecks.laidMetH_plain _ _ _ (by kernel_rfl)] at h
  obtain ⟨g4, u4, c4, f4, p4, hg4, ht4, hv4, hd4⟩ := Go.Lib.laidMet.reads h (n := "adit/icmp.version4") (d := Rows.laid_adit_icmp_version4) (by unfold laidP; exact List.mem_cons_self ..)
  obtain ⟨g6, u6, c6, f6, p6, hg6, ht6, hv6, hd6⟩ := Go.Lib.laidMet.reads h (n := "adit/icmp.version6") (d := Rows.laid_adit_icmp_version6) (by unfold laidP; exact List.mem_cons_of_mem _ (List.mem_cons_self ..))
  obtain ⟨g5, u5, c5, f5, p5, hg5, ht5, hv5, hd5⟩ := Go.Lib.laidMet.reads h (n := "adit/icmp.errors4") (d := Rows.laid_adit_icmp_errors4) (by unfold laidP; exact List.mem_cons_of_mem _ (List.mem_cons_of_mem _ (List.mem_cons_self ..)))
  obtain rfl := Option.some.inj (g4V.symm.trans hg4)
  obtain rfl := Option.some.inj (g6V.symm.trans hg6)
  obtain rfl := Option.some.inj (gErr.symm.trans hg5)
  obtain rfl := Option.some.inj (t4V.symm.trans ht4)
  obtain rfl := Option.some.inj (t6V.symm.trans ht6)
  obtain rfl := Option.some.inj (tErr.symm.trans ht5)
  rw [ver4_data] at hd4
  rw [ver6_data] at hd6
  refine ⟨fun j hj => (var_cell g4V hv4 j).trans (ver_cells hd4 j hj), fun j hj => (var_cell g6V hv6 j).trans (ver_cells hd6 j hj), fun j hj => (var_cell gErr hv5 j).trans ?_⟩
  obtain ⟨zs, m1, _, hz, hzl, hz5, hel⟩ := DataW.trod_array Tryd.underlying144 hd5
  have hz1 : (DataW.agg (zs.map (·.1)) : DataW Unit) = .agg [.lit (.int .u8 3), .lit (.int .u8 4), .lit (.int .u8 5), .lit (.int .u8 11), .lit (.int .u8 12)] := (congrArg Prod.fst hz).symm
  simp only [DataW.agg.injEq] at hz1
  have h0 := hel j hj
  rw [zc8, Nat.mul_one] at h0
  have hjl : j < zs.length := by omega
  rw [List.getElem?_eq_getElem hjl] at h0
  refine lit_cell Tryd.underlying5 h0 ?_
  have h1 : (zs.map (·.1))[j]? = some (zs[j]).1 := by rw [List.getElem?_map, List.getElem?_eq_getElem hjl]; rfl
  rw [hz1] at h1
  match j, hj with
  | 0, _ => exact (Option.some.inj h1).symm
  | 1, _ => exact (Option.some.inj h1).symm
  | 2, _ => exact (Option.some.inj h1).symm
  | 3, _ => exact (Option.some.inj h1).symm
  | 4, _ => exact (Option.some.inj h1).symm
end Go.Proofs.YtojekoakgpkkdaaDoor

/-
  Own text. Paths in memory: maps keyed by addresses, what a lookup, a store, a delete and len do. (After our own text of maps keyed by families.)
-/
namespace Go.Proofs.YtojekoakgpkkdaaDoor
open Go.RowKit Go.Proofs
set_option maxRecDepth 100000
abbrev Ad := Bool × List Int
/-- An address as a key. -/
def adK (v : Bool) (b : Nat → Int) : Ad := (v, (List.range 16).map b)
theorem adK_iff {v v' : Bool} {b b' : Nat → Int} : adK v b = adK v' b' ↔ (v = v' ∧ ∀ i, i < 16 → b i = b' i) := by
  unfold adK
  rw [Prod.mk.injEq, List.map_inj_left]
  exact ⟨fun h => ⟨h.1, fun i hi => h.2 i (List.mem_range.2 hi)⟩, fun h => ⟨h.1, fun i hi => h.2 i (List.mem_range.1 hi)⟩⟩
/-- What is known of a path. -/
structure Pth where
  mtu : Int
  born : Int
  num : Int
def paV (p : Pth) : Nat → Value
  | 0 => .int .i64 p.mtu
  | 1 => .int .i64 p.born
  | _ => .int .i64 p.num
theorem paV_one (p : Pth) (j : Nat) : (paV p j).oneCell' = true := by unfold paV; split <;> rfl
def paA (p : Pth) : Value := .agg (SC 3 (paV p))
theorem isPa : IsSt 106 3 := ⟨_, Tryd.underlying106, rfl, by kernel_rfl⟩
theorem zeroPa (w : World) : (zeroValue 106).run Tryd.prog w = .ok (.agg (SC 3 (paV ⟨0, 0, 0⟩))) w := by kernel_rfl
/-- A value that is an address. -/
def KeyIs (k : Value) (F : Ad) : Prop := ∃ v b, k = .agg (SC 17 (adV v b)) ∧ F = adK v b
theorem chkF (v : Bool) (b : Nat → Int) (w : World) (em : Bool) : (Instr.checkKey em 10000 24 (.agg (SC 17 (adV v b)))).run Tryd.prog w = .ok () w := by kernel_rfl
theorem equal_key {k l : Value} {F G : Ad} (hk : KeyIs k F) (hl : KeyIs l G) (w : World) : (Op.equal 24 k l).run Tryd.prog w = .ok (decide (F = G)) w := by
  obtain ⟨v, b, rfl, rfl⟩ := hk
  obtain ⟨v', b', rfl, rfl⟩ := hl
  have hd : decide (adK v b = adK v' b') = eqAF v b v' b' := by
    rw [Bool.eq_iff_iff, decide_eq_true_eq, adK_iff, eqAF_iff]
  rw [hd]
  exact equal_addr v b v' b' w
theorem chk_key {k : Value} {F : Ad} (hk : KeyIs k F) (em : Bool) (w : World) : (Instr.checkKey em 10000 24 k).run Tryd.prog w = .ok () w := by
  obtain ⟨v, b, rfl, rfl⟩ := hk
  exact chkF _ _ w em
/-- The entries of a map of paths. -/
def EsAt : List (Ad × Pth) → List MapEntry → Prop
  | [], [] => True
  | c :: L, x :: es => KeyIs x.key c.1 ∧ x.val = paA c.2 ∧ EsAt L es
  | _, _ => False
theorem EsAt.len : ∀ {L : List (Ad × Pth)} {es : List MapEntry}, EsAt L es → es.length = L.length
  | [], [], _ => rfl
  | _ :: L, _ :: es, h => by rw [List.length_cons, List.length_cons, EsAt.len h.2.2]
  | [], _ :: _, h => h.elim
  | _ :: _, [], h => h.elim
theorem EsAt.snoc : ∀ {L : List (Ad × Pth)} {es : List MapEntry}, EsAt L es → ∀ {c : Ad × Pth} {x : MapEntry}, KeyIs x.key c.1 → x.val = paA c.2 → EsAt (L ++ [c]) (es ++ [x])
  | [], [], _, _, _, h1, h2 => ⟨h1, h2, trivial⟩
  | _ :: _, _ :: _, h, _, _, h1, h2 => ⟨h.1, h.2.1, EsAt.snoc h.2.2 h1 h2⟩
  | [], _ :: _, h, _, _, _, _ => h.elim
  | _ :: _, [], h, _, _, _, _ => h.elim
theorem EsAt.erase : ∀ {L : List (Ad × Pth)} {es : List MapEntry}, EsAt L es → ∀ i, EsAt (L.eraseIdx i) (es.eraseIdx i)
  | [], [], _, _ => trivial
  | _ :: _, _ :: _, h, 0 => h.2.2
  | _ :: _, _ :: _, h, i + 1 => ⟨h.1, h.2.1, EsAt.erase h.2.2 i⟩
  | [], _ :: _, h, _ => h.elim
  | _ :: _, [], h, _ => h.elim
theorem find_asking {k : Value} {F : Ad} (hk : KeyIs k F) (w : World) : ∀ {L : List (Ad × Pth)} {es : List MapEntry}, EsAt L es → ∀ i,
    ((Instr.findAsking 24 k es i).run Tryd.prog w = .ok none w ∧ ∀ c ∈ L, c.1 ≠ F) ∨ ∃ j c, (Instr.findAsking 24 k es i).run Tryd.prog w = .ok (some (i + j, paA c.2)) w ∧ L[j]? = some c ∧ c.1 = F ∧ ∀ q, q < j → ∀ d, L[q]? = some d → d.1 ≠ F
  | [], [], _, i => .inl ⟨by simp [Instr.findAsking], by simp⟩
  | c :: L, x :: es, h, i => by
    have he := equal_key hk h.1 w
    by_cases e : F = c.1
    · right
      rw [decide_eq_true e] at he
      exact ⟨0, c, by simp [Instr.findAsking, he, h.2.1], rfl, e.symm, fun q hq => absurd hq (Nat.not_lt_zero _)⟩
    · rw [decide_eq_false e] at he
      rcases find_asking hk w h.2.2 (i + 1) with ⟨h1, h2⟩ | ⟨j, d, h1, h2, h3, h4⟩
      · left
        refine ⟨by simp [Instr.findAsking, he, h1], fun d hd => ?_⟩
        rcases List.mem_cons.1 hd with rfl | hd
        · exact fun e2 => e e2.symm
        · exact h2 d hd
      · right
        refine ⟨j + 1, d, by simp [Instr.findAsking, he, h1, Nat.add_assoc, Nat.add_comm 1 j], by simpa using h2, h3, fun q hq u hu => ?_⟩
        cases q with
        | zero => simp at hu; subst hu; exact fun e2 => e e2.symm
        | succ q => exact h4 q (by omega) u (by simpa using hu)
  | [], _ :: _, h, _ => h.elim
  | _ :: _, [], h, _ => h.elim
theorem wideF : (match Tryd.prog.underlying 24 with | some (.array _ _) | some (.struct _) => true | _ => false) = true := by kernel_rfl
theorem find_key (k : Value) (es : List MapEntry) (w : World) : (Instr.findKey 24 k es).run Tryd.prog w = (Instr.findAsking 24 k es).run Tryd.prog w := run_findKey_eq w wideF k es
/-- Block m is a map of paths. -/
def MapAt (w : World) (m : Nat) (L : List (Ad × Pth)) : Prop := ∃ es clock, w.heap[m]? = some (.map es clock) ∧ EsAt L es.toList ∧ (es.toList.map (·.born)).Nodup ∧ ∀ x ∈ es.toList, x.born < clock
def hasK (L : List (Ad × Pth)) (F : Ad) : Option (Ad × Pth) := L.find? (fun c => decide (c.1 = F))
theorem hasK_no {L : List (Ad × Pth)} {F : Ad} (h : ∀ c ∈ L, c.1 ≠ F) : hasK L F = none := by
  unfold hasK
  rw [List.find?_eq_none]
  intro c hc
  simpa using h c hc
theorem hasK_yes : ∀ {L : List (Ad × Pth)} {F : Ad} {j : Nat} {c : Ad × Pth}, L[j]? = some c → c.1 = F → (∀ q, q < j → ∀ d, L[q]? = some d → d.1 ≠ F) → hasK L F = some c
  | [], _, _, _, h, _, _ => by simp at h
  | x :: L, F, 0, c, h, e, _ => by
    simp at h
    subst h
    unfold hasK
    rw [List.find?_cons_of_pos (by simpa using e)]
  | x :: L, F, j + 1, c, h, e, hn => by
    have h0 := hn 0 (by omega) x rfl
    have ih := hasK_yes (L := L) (by simpa using h) e (fun q hq d hd => hn (q + 1) (by omega) d (by simpa using hd))
    unfold hasK at ih ⊢
    rw [List.find?_cons_of_neg (by simpa using h0)]
    exact ih
theorem erase_filter : ∀ {L : List (Ad × Pth)} {F : Ad} {j : Nat} {c : Ad × Pth}, (L.map (·.1)).Nodup → L[j]? = some c → c.1 = F → L.eraseIdx j = L.filter (fun c => !decide (c.1 = F))
  | [], _, _, _, _, h, _ => by simp at h
  | x :: L, F, 0, c, hn, h, e => by
    simp at h
    subst h
    rw [List.map_cons, List.nodup_cons] at hn
    rw [List.eraseIdx_zero, List.tail_cons, List.filter_cons_of_neg (by simpa using e)]
    symm
    rw [List.filter_eq_self]
    intro d hd
    have : d.1 ≠ F := fun e2 => hn.1 (by rw [e, ← e2]; exact List.mem_map_of_mem hd)
    simpa using this
  | x :: L, F, j + 1, c, hn, h, e => by
    rw [List.map_cons, List.nodup_cons] at hn
    have h1 : L[j]? = some c := by simpa using h
    have ih := erase_filter hn.2 h1 e
    have hx : x.1 ≠ F := fun e2 => hn.1 (by rw [e2, ← e]; exact List.mem_map_of_mem (List.mem_of_getElem? h1))
    rw [List.eraseIdx_cons_succ, ih, List.filter_cons_of_pos (by simpa using hx)]
theorem MapAt.block {w w' : World} {m : Nat} {L : List (Ad × Pth)} (h : MapAt w m L) (e : w'.heap[m]? = w.heap[m]?) : MapAt w' m L := by
  obtain ⟨es, cl, h1, h2⟩ := h
  exact ⟨es, cl, e.trans h1, h2⟩
theorem MapAt.lt {w : World} {m : Nat} {L : List (Ad × Pth)} (h : MapAt w m L) : m < w.heap.size := by
  obtain ⟨es, cl, h1, _⟩ := h
  exact heap_lt h1
theorem MapAt.kept {w w' : World} {m : Nat} {L : List (Ad × Pth)} (h : MapAt w m L) (hb : Below w.heap.size w w') : MapAt w' m L := h.block (hb.block m h.lt)
def lookV (L : List (Ad × Pth)) (F : Ad) : Value := match hasK L F with | some c => paA c.2 | none => paA ⟨0, 0, 0⟩
theorem run_lookF {w : World} {m : Nat} {L : List (Ad × Pth)} (h : MapAt w m L) {k : Value} {F : Ad} (hk : KeyIs k F) (ok : Bool) : (Instr.lookup 99 (.map (some m)) k ok).run Tryd.prog w = .ok (if ok = true then .tuple #[lookV L F, .bool (hasK L F).isSome] else lookV L F) w := by
  obtain ⟨es, cl, h1, h2, _⟩ := h
  have hz : (zeroValue 106).run Tryd.prog w = .ok (paA ⟨0, 0, 0⟩) w := by kernel_rfl
  unfold Instr.lookup
  simp only [Sem.run_bind, run_underlying Tryd.underlying99 w, Result.andThen_ok, getObj]
  rcases find_asking hk w h2 0 with ⟨e, hn⟩ | ⟨j, c, e, hj, hc, hn⟩
  · have hx := hasK_no hn
    unfold lookV
    simp only [hx]
    cases ok <;> simp [Sem.run, h1, e, hz, chk_key hk, find_key] <;> rfl
  · have hx := hasK_yes hj hc hn
    unfold lookV
    simp only [hx]
    cases ok <;> simp [Sem.run, h1, e, chk_key hk, find_key] <;> rfl
theorem run_setM {w : World} {m : Nat} {es : Array MapEntry} {cl : Nat} (h : w.heap[m]? = some (.map es cl)) (o : Obj) : (setObj m o).run Tryd.prog w = .ok () (Go.ChangeMaps.setBlock w m o) := by
  simp [setObj, Sem.run, h, Go.ChangeMaps.setBlock]
theorem setB_at {w : World} {m : Nat} (h : m < w.heap.size) (o : Obj) : (Go.ChangeMaps.setBlock w m o).heap[m]? = some o := by
  simp [Go.ChangeMaps.setBlock, h]
theorem setB_only (w : World) (m : Nat) (o : Obj) : Only m w (Go.ChangeMaps.setBlock w m o) := ⟨rfl, rfl, rfl, by simp [Go.ChangeMaps.setBlock], fun k hk => by simp [Go.ChangeMaps.setBlock, Array.getElem?_setIfInBounds_ne (fun e => hk e.symm)]⟩
theorem run_delF {w : World} {m : Nat} {L : List (Ad × Pth)} (h : MapAt w m L) (hn : (L.map (·.1)).Nodup) {k : Value} {F : Ad} (hk : KeyIs k F) (t : TypeId) : ∃ w', (Builtin.delete_ #[99, 24] t #[.map (some m), k]).run Tryd.prog w = .ok (.tuple #[]) w' ∧ MapAt w' m (L.filter (fun c => !decide (c.1 = F))) ∧ Only m w w' := by
  have hlt := h.lt
  obtain ⟨es, cl, h1, h2, h3, h4⟩ := h
  have hb : ∀ o : Obj, Only m w (Go.ChangeMaps.setBlock w m o) := setB_only w m
  rcases find_asking hk w h2 0 with ⟨e, hno⟩ | ⟨j, c, e, hj, hc, hno⟩
  · refine ⟨Go.ChangeMaps.setBlock w m (.map es cl), ?_, ⟨es, cl, setB_at hlt _, ?_, h3, h4⟩, hb _⟩
    · unfold Builtin.delete_
      simp [Sem.run_bind, run_underlying Tryd.underlying99 w, getObj, Sem.run, h1, e, chk_key hk, find_key, run_setM h1]
    · rw [List.filter_eq_self.2 (fun c hc => by simpa using hno c hc)]
      exact h2
  · refine ⟨Go.ChangeMaps.setBlock w m (.map (es.eraseIdxIfInBounds j) cl), ?_, ⟨_, cl, setB_at hlt _, ?_, ?_, ?_⟩, hb _⟩
    · unfold Builtin.delete_
      simp [Sem.run_bind, run_underlying Tryd.underlying99 w, getObj, Sem.run, h1, e, chk_key hk, find_key, run_setM h1]
    · rw [Array.toList_eraseIdxIfInBounds, ← erase_filter hn hj hc]
      exact h2.erase j
    · rw [Array.toList_eraseIdxIfInBounds]
      exact List.Nodup.sublist (List.Sublist.map _ (List.eraseIdx_sublist _ _)) h3
    · rw [Array.toList_eraseIdxIfInBounds]
      exact fun x hx => h4 x (List.mem_of_mem_eraseIdx hx)
theorem run_newF {w : World} {m : Nat} {L : List (Ad × Pth)} (h : MapAt w m L) {k : Value} {F : Ad} (hk : KeyIs k F) (hno : ∀ c ∈ L, c.1 ≠ F) (b : Pth) : ∃ w', (Instr.mapUpdate 99 (.map (some m)) k (paA b)).run Tryd.prog w = .ok () w' ∧ MapAt w' m (L ++ [(F, b)]) ∧ Only m w w' := by
  have hlt := h.lt
  obtain ⟨es, cl, h1, h2, h3, h4⟩ := h
  rcases find_asking hk w h2 0 with ⟨e, _⟩ | ⟨j, c, _, hj, hc, _⟩
  · refine ⟨Go.ChangeMaps.setBlock w m (.map (es.push { key := k, val := paA b, born := cl }) (cl + 1)), ?_, ⟨_, _, setB_at hlt _, ?_, ?_, ?_⟩, setB_only _ _ _⟩
    · unfold Instr.mapUpdate
      simp [Sem.run_bind, run_underlying Tryd.underlying99 w, getObj, Sem.run, h1, e, chk_key hk, find_key, run_setM h1]
    · rw [Array.toList_push]
      exact h2.snoc hk rfl
    · rw [Array.toList_push, List.map_append, List.nodup_append]
      refine ⟨h3, by simp, fun x hx y hy e2 => ?_⟩
      simp at hy
      obtain ⟨z, hz, rfl⟩ := List.mem_map.1 hx
      have := h4 z hz
      omega
    · intro x hx
      rw [Array.toList_push] at hx
      rcases List.mem_append.1 hx with hx | hx
      · have := h4 x hx; omega
      · simp at hx; subst hx; exact Nat.lt_succ_self _
  · exact absurd hc (hno c (List.mem_of_getElem? hj))
theorem run_lenF {w : World} {m : Nat} {L : List (Ad × Pth)} (h : MapAt w m L) (t : TypeId) : (Builtin.len_ #[99] t #[.map (some m)]).run Tryd.prog w = .ok (.int .i64 (L.length : Int)) w := by
  obtain ⟨es, cl, h1, h2, _⟩ := h
  have := h2.len
  rw [Array.length_toList] at this
  simp [Builtin.len_, getObj, Sem.run, h1, goInt, this]
end Go.Proofs.YtojekoakgpkkdaaDoor

/-
  Own text. Ranging over a map of paths, in whatever order: what is still to come; deleting on the way. (After our own text of maps keyed by families.)
-/
namespace Go.Proofs.YtojekoakgpkkdaaDoor
open Go.RowKit Go.Proofs
set_option maxRecDepth 100000
abbrev Zz := List ((Ad × Pth) × MapEntry)
def ZOk (Z : Zz) (clock : Nat) : Prop := (∀ z ∈ Z, KeyIs z.2.key z.1.1 ∧ z.2.val = paA z.1.2) ∧ (Z.map (·.2.born)).Nodup ∧ ∀ z ∈ Z, z.2.born < clock
theorem es_zip : ∀ {L : List (Ad × Pth)} {es : List MapEntry}, EsAt L es → ∃ Z : Zz, Z.map (·.1) = L ∧ Z.map (·.2) = es ∧ ∀ z ∈ Z, KeyIs z.2.key z.1.1 ∧ z.2.val = paA z.1.2
  | [], [], _ => ⟨[], rfl, rfl, fun z hz => by cases hz⟩
  | c :: L, x :: es, h => by
    obtain ⟨Z, h1, h2, h3⟩ := es_zip h.2.2
    refine ⟨(c, x) :: Z, by rw [List.map_cons, h1], by rw [List.map_cons, h2], fun z hz => ?_⟩
    rcases List.mem_cons.1 hz with rfl | hz
    · exact ⟨h.1, h.2.1⟩
    · exact h3 z hz
  | [], _ :: _, h => h.elim
  | _ :: _, [], h => h.elim
theorem zip_es : ∀ {Z : Zz}, (∀ z ∈ Z, KeyIs z.2.key z.1.1 ∧ z.2.val = paA z.1.2) → EsAt (Z.map (·.1)) (Z.map (·.2))
  | [], _ => trivial
  | z :: Z, h => ⟨(h z (by simp)).1, (h z (by simp)).2, zip_es (fun y hy => h y (by simp [hy]))⟩
theorem map_z {w : World} {m : Nat} {L : List (Ad × Pth)} : MapAt w m L ↔ ∃ Z clock, w.heap[m]? = some (.map (Z.map (·.2)).toArray clock) ∧ ZOk Z clock ∧ L = Z.map (·.1) := by
  constructor
  · rintro ⟨es, cl, h1, h2, h3, h4⟩
    obtain ⟨Z, e1, e2, e3⟩ := es_zip h2
    refine ⟨Z, cl, by rw [e2]; exact h1, ⟨e3, ?_, fun z hz => h4 _ (by rw [← e2]; exact List.mem_map_of_mem hz)⟩, e1.symm⟩
    rw [← e2, List.map_map] at h3
    exact h3
  · rintro ⟨Z, cl, h1, ⟨h2, h3, h4⟩, rfl⟩
    refine ⟨_, cl, h1, zip_es h2, ?_, fun x hx => ?_⟩
    · show ((Z.map (·.2)).map (·.born)).Nodup
      rw [List.map_map]
      exact h3
    · obtain ⟨z, hz, rfl⟩ := List.mem_map.1 hx
      exact h4 z hz
theorem eraseIdx_mapZ : ∀ (Z : Zz) (j : Nat), (Z.eraseIdx j).map (·.2) = (Z.map (·.2)).eraseIdx j
  | [], _ => rfl
  | _ :: _, 0 => rfl
  | z :: Z, j + 1 => by
    show z.2 :: (Z.eraseIdx j).map (·.2) = z.2 :: (Z.map (·.2)).eraseIdx j
    rw [eraseIdx_mapZ Z j]
/-- Block r goes over block m: a map with the entries L; left: those still to come. -/
def RangeAt (w : World) (m r : Nat) (L left : List (Ad × Pth)) : Prop := ∃ (Z : Zz) (clock since : Nat) (seen : Array Nat) (c0 : Nat), w.heap[m]? = some (.map (Z.map (·.2)).toArray clock) ∧ ZOk Z clock ∧ w.heap[r]? = some (.mapIter (some m) since seen c0) ∧ (∀ z ∈ Z, z.2.born < since) ∧ since ≤ c0 ∧ since ≤ clock ∧ L = Z.map (·.1) ∧ left = (Z.filter fun z => !seen.contains z.2.born).map (·.1)
theorem RangeAt.map {w : World} {m r : Nat} {L left : List (Ad × Pth)} (h : RangeAt w m r L left) : MapAt w m L := by
  obtain ⟨Z, cl, si, seen, c0, h1, h2, _, _, _, _, h6, _⟩ := h
  exact map_z.2 ⟨Z, cl, h1, h2, h6⟩
theorem RangeAt.ne {w : World} {m r : Nat} {L left : List (Ad × Pth)} (h : RangeAt w m r L left) : m ≠ r := by
  obtain ⟨Z, cl, si, seen, c0, h1, _, h3, _⟩ := h
  intro e
  subst e
  rw [h1] at h3
  cases h3
theorem RangeAt.lt {w : World} {m r : Nat} {L left : List (Ad × Pth)} (h : RangeAt w m r L left) : m < w.heap.size ∧ r < w.heap.size := by
  obtain ⟨Z, cl, si, seen, c0, h1, _, h3, _⟩ := h
  exact ⟨heap_lt h1, heap_lt h3⟩
theorem RangeAt.block {w w' : World} {m r : Nat} {L left : List (Ad × Pth)} (h : RangeAt w m r L left) (e1 : w'.heap[m]? = w.heap[m]?) (e2 : w'.heap[r]? = w.heap[r]?) : RangeAt w' m r L left := by
  obtain ⟨Z, cl, si, seen, c0, h1, h2, h3, h4⟩ := h
  exact ⟨Z, cl, si, seen, c0, e1.trans h1, h2, e2.trans h3, h4⟩
theorem RangeAt.kept {w w' : World} {m r : Nat} {L left : List (Ad × Pth)} (h : RangeAt w m r L left) (hb : Below w.heap.size w w') : RangeAt w' m r L left := h.block (hb.block _ h.lt.1) (hb.block _ h.lt.2)
theorem range_start {w : World} {m : Nat} {L : List (Ad × Pth)} (h : MapAt w m L) : ∃ w', (Instr.range 99 (.map (some m))).run Tryd.prog w = .ok (.pointer (some ⟨w.heap.size, 0, none⟩)) w' ∧ RangeAt w' m w.heap.size L L ∧ Below w.heap.size w w' ∧ w'.heap.size = w.heap.size + 1 := by
  obtain ⟨Z, cl, h1, h2, h3⟩ := map_z.1 h
  refine ⟨_, run_range_map w _ _ _ m _ cl Tryd.underlying99 h1, ⟨Z, cl, cl, #[], cl, ?_, h2, heap_alloc_new _ _, h2.2.2, Nat.le_refl _, Nat.le_refl _, h3, ?_⟩, (Below.refl _ _).alloc (Nat.le_refl _) _, by simp⟩
  · rw [Below.heap_alloc _ _ _ (heap_lt h1)]; exact h1
  · rw [h3]
    congr 1
    exact (List.filter_eq_self.2 (fun z _ => by simp)).symm
theorem perm_left {Z : Zz} {seen : Array Nat} {z : (Ad × Pth) × MapEntry} (hn : (Z.map (·.2.born)).Nodup) (hz : z ∈ Z) (hs : seen.contains z.2.born = false) : (Z.filter fun y => !seen.contains y.2.born).Perm (z :: Z.filter fun y => !(seen.push z.2.born).contains y.2.born) := by
  induction Z with
  | nil => cases hz
  | cons y Z ih =>
    rw [List.map_cons, List.nodup_cons] at hn
    have hp : ∀ b, (seen.push z.2.born).contains b = (seen.contains b || b == z.2.born) := fun b => by
      rw [Bool.eq_iff_iff]
      simp
    rcases List.mem_cons.1 hz with e | hz
    · subst e
      rw [List.filter_cons_of_pos (by rw [hs]; rfl), List.filter_cons_of_neg (by rw [hp]; simp)]
      refine List.Perm.cons _ ?_
      rw [show (Z.filter fun y => !(seen.push z.2.born).contains y.2.born) = Z.filter fun y => !seen.contains y.2.born from List.filter_congr (fun x hx => by
        have : x.2.born ≠ z.2.born := fun e => hn.1 (by rw [← e]; exact List.mem_map_of_mem (f := fun x : (Ad × Pth) × MapEntry => x.2.born) hx)
        rw [hp]
        simp [this])]
    · have hne : y.2.born ≠ z.2.born := fun e => hn.1 (by rw [e]; exact List.mem_map_of_mem (f := fun x : (Ad × Pth) × MapEntry => x.2.born) hz)
      have ih := ih hn.2 hz
      by_cases hy : seen.contains y.2.born = true
      · rw [List.filter_cons_of_neg (by rw [hy]; decide), List.filter_cons_of_neg (by rw [hp, hy]; simp)]
        exact ih
      · have hy : seen.contains y.2.born = false := by simpa using hy
        rw [List.filter_cons_of_pos (by rw [hy]; rfl), List.filter_cons_of_pos (by rw [hp, hy]; simp [hne])]
        exact (ih.cons y).trans (List.Perm.swap z y _)
/-- What an iterator's last step handed out. -/
def EntryIs (w : World) (r : Nat) (key : Value) (b : Pth) : Prop := (Instr.entry (.pointer (some ⟨r, 0, none⟩))).run Tryd.prog w = .ok (.tuple #[key, paA b]) w
theorem range_next {w : World} {m r : Nat} {L left : List (Ad × Pth)} (h : RangeAt w m r L left) (ty : TypeId) :
    (left = [] ∧ (Instr.next (.pointer (some ⟨r, 0, none⟩)) false ty).run Tryd.prog w = .ok (.tuple #[.bool false]) w) ∨
    ∃ c left' key w', left.Perm (c :: left') ∧ c ∈ L ∧ KeyIs key c.1 ∧ (Instr.next (.pointer (some ⟨r, 0, none⟩)) false ty).run Tryd.prog w = .ok (.tuple #[.bool true, key, paA c.2]) w' ∧ RangeAt w' m r L left' ∧ Only r w w' ∧ EntryIs w' r key c.2 := by
  have hmr := h.ne
  obtain ⟨Z, cl, si, seen, c0, h1, h2, h3, h4, h5, h6, h7, h8⟩ := h
  have hold : ∀ x ∈ (Z.map (·.2)).toArray.toList, x.born < si := fun x hx => by
    obtain ⟨z, hz, rfl⟩ := List.mem_map.1 (show x ∈ Z.map (·.2) from hx)
    exact h4 z hz
  have hleft : (Go.leftOf (Z.map (·.2)).toArray seen).toList = (Z.filter fun z => !seen.contains z.2.born).map (·.2) := by
    unfold Go.leftOf
    rw [Array.toList_filter]
    show List.filter _ (Z.map (·.2)) = _
    rw [List.filter_map]
    rfl
  rcases run_next_at w ty r m si c0 seen _ cl h3 h1 hold h5 with ⟨e0, hr⟩ | ⟨e, he, w1, hw1, hr⟩
  · left
    refine ⟨?_, hr⟩
    have : (Z.filter fun z => !seen.contains z.2.born).map (·.2) = [] := by
      rw [← hleft]
      exact List.eq_nil_of_length_eq_zero (by rw [Array.length_toList]; exact e0)
    rw [h8]
    rw [List.map_eq_nil_iff] at this ⊢
    exact this
  · right
    rw [hleft] at he
    obtain ⟨z, hz, rfl⟩ := List.mem_map.1 he
    obtain ⟨hz1, hz2⟩ := List.mem_filter.1 hz
    have hz2 : seen.contains z.2.born = false := by simpa using hz2
    obtain ⟨k1, k2⟩ := h2.1 z hz1
    have hw1h : w1.heap = w.heap := by rcases hw1 with rfl | rfl <;> rfl
    have hrl := heap_lt h3
    have hm2 : (Go.ChangeMaps.setBlock w1 r (.mapIter (some m) si (seen.push z.2.born) cl)).heap[m]? = some (.map (Z.map (·.2)).toArray cl) := by
      rw [(setB_only w1 r _).block m hmr, hw1h]; exact h1
    have hr2 : (Go.ChangeMaps.setBlock w1 r (.mapIter (some m) si (seen.push z.2.born) cl)).heap[r]? = some (.mapIter (some m) si (seen.push z.2.born) cl) := setB_at (by rw [hw1h]; exact hrl) _
    refine ⟨z.1, _, z.2.key, _, ?_, by rw [h7]; exact List.mem_map_of_mem hz1, k1, by rw [k2] at hr; exact hr, ⟨Z, cl, si, seen.push z.2.born, cl, hm2, h2, hr2, h4, h6, h6, h7, rfl⟩, ?_, ?_⟩
    · rw [h8]
      exact (perm_left h2.2.1 hz1 hz2).map (·.1)
    · have o := setB_only w1 r (.mapIter (some m) si (seen.push z.2.born) cl)
      refine ⟨o.os.trans ?_, o.tape.trans ?_, o.output.trans ?_, o.size.trans (by rw [hw1h]), fun k hk => (o.block k hk).trans (by rw [hw1h])⟩
      · rcases hw1 with rfl | rfl <;> rfl
      · rcases hw1 with rfl | rfl <;> rfl
      · rcases hw1 with rfl | rfl <;> rfl
    · have := run_entry_at (P := Tryd.prog) _ r m si seen (Z.map (·.2)).toArray cl z.2 hr2 hm2 (by show z.2 ∈ Z.map (·.2); exact List.mem_map_of_mem hz1) (by show ((Z.map (·.2)).map (·.born)).Nodup; rw [List.map_map]; exact h2.2.1)
      unfold EntryIs
      rw [this, k2]
theorem range_del {w : World} {m r : Nat} {L left : List (Ad × Pth)} {c : Ad × Pth} (h : RangeAt w m r L left) (hn : (L.map (·.1)).Nodup) (hc : c ∈ L) (hl : ∀ d ∈ left, d.1 ≠ c.1) {k : Value} (hk : KeyIs k c.1) (t : TypeId) : ∃ w', (Builtin.delete_ #[99, 24] t #[.map (some m), k]).run Tryd.prog w = .ok (.tuple #[]) w' ∧ RangeAt w' m r (L.filter (fun d => !decide (d.1 = c.1))) left ∧ Only m w w' := by
  have hmr := h.ne
  have hlt := h.lt
  obtain ⟨Z, cl, si, seen, c0, h1, h2, h3, h4, h5, h6, h7, h8⟩ := h
  have hes : EsAt (Z.map (·.1)) (Z.map (·.2)).toArray.toList := zip_es h2.1
  subst h7
  rcases find_asking hk w hes 0 with ⟨_, hno⟩ | ⟨j, c', e, hj, hcc, hno⟩
  · exact absurd rfl (hno c hc)
  · have hZ : (Z.eraseIdx j) = Z.filter (fun z => !decide (z.1.1 = c.1)) := by
      have key : ∀ (Z : Zz) (j : Nat) (c' : Ad × Pth), ((Z.map (·.1)).map (·.1)).Nodup → (Z.map (·.1))[j]? = some c' → c'.1 = c.1 → Z.eraseIdx j = Z.filter (fun z => !decide (z.1.1 = c.1)) := by
        intro Z
        induction Z with
        | nil => intro j c' _ h _; simp at h
        | cons z Z ih =>
          intro j c' hn h e
          rw [List.map_cons, List.map_cons, List.nodup_cons] at hn
          cases j with
          | zero =>
            simp at h
            subst h
            rw [List.eraseIdx_zero, List.tail_cons, List.filter_cons_of_neg (by simpa using e)]
            symm
            rw [List.filter_eq_self]
            intro d hd
            have : d.1.1 ≠ c.1 := fun e2 => hn.1 (by rw [e, ← e2]; exact List.mem_map_of_mem (List.mem_map_of_mem hd))
            simpa using this
          | succ j =>
            have h1 : (Z.map (·.1))[j]? = some c' := by simpa using h
            have hx : z.1.1 ≠ c.1 := fun e2 => hn.1 (by rw [e2, ← e]; exact List.mem_map_of_mem (List.mem_of_getElem? h1))
            rw [List.eraseIdx_cons_succ, ih j c' hn.2 h1 e, List.filter_cons_of_pos (by simpa using hx)]
      exact key Z j c' hn hj hcc
    have harr : (Z.map (·.2)).toArray.eraseIdxIfInBounds j = ((Z.filter (fun z => !decide (z.1.1 = c.1))).map (·.2)).toArray := by
      rw [← hZ]
      apply Array.toList_inj.1
      rw [Array.toList_eraseIdxIfInBounds]
      show (Z.map (·.2)).eraseIdx j = (Z.eraseIdx j).map (·.2)
      exact (eraseIdx_mapZ Z j).symm
    have o := setB_only w m (.map ((Z.filter (fun z => !decide (z.1.1 = c.1))).map (·.2)).toArray cl)
    refine ⟨Go.ChangeMaps.setBlock w m (.map ((Z.filter (fun z => !decide (z.1.1 = c.1))).map (·.2)).toArray cl), ?_, ⟨Z.filter (fun z => !decide (z.1.1 = c.1)), cl, si, seen, c0, setB_at hlt.1 _, ?_, (o.block r (fun e => hmr e.symm)).trans h3, fun z hz => h4 z (List.mem_filter.1 hz).1, h5, h6, ?_, ?_⟩, o⟩
    · rw [← harr]
      unfold Builtin.delete_
      have e : (Instr.findAsking 24 k (Z.map (·.2)) 0).run Tryd.prog w = .ok (some (0 + j, paA c'.2)) w := e
      simp [Sem.run_bind, run_underlying Tryd.underlying99 w, getObj, Sem.run, h1, e, chk_key hk, find_key]
      rw [run_setM h1]
      rfl
    · refine ⟨fun z hz => h2.1 z (List.mem_filter.1 hz).1, List.Nodup.sublist (List.Sublist.map _ List.filter_sublist) h2.2.1, fun z hz => h2.2.2 z (List.mem_filter.1 hz).1⟩
    · rw [List.filter_map]; rfl
    · rw [h8, List.filter_filter]
      congr 1
      refine List.filter_congr (fun z hz => ?_)
      by_cases hs : seen.contains z.2.born = true
      · rw [hs]; rfl
      · have hs : seen.contains z.2.born = false := by simpa using hs
        have : z.1.1 ≠ c.1 := hl z.1 (by rw [h8]; exact List.mem_map_of_mem (List.mem_filter.2 ⟨hz, by rw [hs]; rfl⟩))
        rw [hs]
        simp [this]
section
variable {ops : Array Oper} {rest : List Oper} {o : Oper} {a : Act} {w : World} {Q : Exit → Act → World → Prop}
theorem wl_range {x : Operand} {m : Nat} {L : List (Ad × Pth)} (ho : o.op = .range 99 x) (hw : Region.wanted o (yielded ops a.tmps) = true) (hx : a.eval x = .map (some m)) (hm : MapAt w m L)
    (h : ∀ r w', w.heap.size ≤ r → RangeAt w' m r L L → Below w.heap.size w w' → wpList Tryd.prog ops Q rest (a.put o.dst (.pointer (some ⟨r, 0, none⟩))) w') : wpList Tryd.prog ops Q (o :: rest) a w := by
  obtain ⟨w', hr, h1, h2, _⟩ := range_start hm
  refine wl_act hw ?_
  unfold Oper.wp execOp
  simp only [ho, hx, Sem.run_bind, hr, Result.andThen_ok, Sem.run_pure, Oper.upon]
  exact h _ _ (Nat.le_refl _) h1 h2
theorem wl_next {x : Operand} {m r : Nat} {L left : List (Ad × Pth)} (ho : o.op = .next x false) (hw : Region.wanted o (yielded ops a.tmps) = true) (hx : a.eval x = .pointer (some ⟨r, 0, none⟩)) (hm : RangeAt w m r L left)
    (h0 : left = [] → wpList Tryd.prog ops Q rest (a.put o.dst (.tuple #[.bool false])) w)
    (h : ∀ c left' key w', left.Perm (c :: left') → c ∈ L → KeyIs key c.1 → RangeAt w' m r L left' → Only r w w' → EntryIs w' r key c.2 → wpList Tryd.prog ops Q rest (a.put o.dst (.tuple #[.bool true, key, paA c.2])) w') : wpList Tryd.prog ops Q (o :: rest) a w := by
  refine wl_act hw ?_
  rcases range_next hm o.type with ⟨e, hr⟩ | ⟨c, left', key, w', h1, h2, h3, hr, h4, h5, h6⟩
  · unfold Oper.wp execOp
    simp only [ho, hx, Sem.run_bind, hr, Result.andThen_ok, Sem.run_pure, Oper.upon]
    exact h0 e
  · unfold Oper.wp execOp
    simp only [ho, hx, Sem.run_bind, hr, Result.andThen_ok, Sem.run_pure, Oper.upon]
    exact h c left' key w' h1 h2 h3 h4 h5 h6
theorem exec_entry {x : Operand} {r : Nat} {b : Pth} {key : Value} (ho : o.op = .entry x) (hx : a.eval x = .pointer (some ⟨r, 0, none⟩)) (he : EntryIs w r key b) : (execOp a.eval o).run Tryd.prog w = .ok (.value (.tuple #[key, paA b])) w := by
  unfold EntryIs at he
  unfold execOp
  simp only [ho, hx, Sem.run_bind, he, Result.andThen_ok, Sem.run_pure]
theorem wl_del {x y : Operand} {m : Nat} {L : List (Ad × Pth)} {k : Value} {F : Ad} (ho : o.op = .call { callee := .builtin .delete, args := #[x, y], argTypes := #[99, 24] }) (hw : Region.wanted o (yielded ops a.tmps) = true) (hx : a.eval x = .map (some m)) (hy : a.eval y = k) (hm : MapAt w m L) (hn : (L.map (·.1)).Nodup) (hk : KeyIs k F)
    (h : ∀ w', MapAt w' m (L.filter (fun c => !decide (c.1 = F))) → Only m w w' → wpList Tryd.prog ops Q rest (a.put o.dst (.tuple #[])) w') : wpList Tryd.prog ops Q (o :: rest) a w := by
  obtain ⟨w', hr, h1, h2⟩ := run_delF hm hn hk o.type
  refine wl_act hw ?_
  unfold Oper.wp
  simp [execOp, ho, resolve, invoke, builtin, hx, hy, hr, Oper.upon, Result.andThen]
  exact h _ h1 h2
theorem wl_delR {x y : Operand} {m r : Nat} {L left : List (Ad × Pth)} {k : Value} {c : Ad × Pth} (ho : o.op = .call { callee := .builtin .delete, args := #[x, y], argTypes := #[99, 24] }) (hw : Region.wanted o (yielded ops a.tmps) = true) (hx : a.eval x = .map (some m)) (hy : a.eval y = k) (hm : RangeAt w m r L left) (hn : (L.map (·.1)).Nodup) (hc : c ∈ L) (hl : ∀ d ∈ left, d.1 ≠ c.1) (hk : KeyIs k c.1)
    (h : ∀ w', RangeAt w' m r (L.filter (fun d => !decide (d.1 = c.1))) left → Only m w w' → wpList Tryd.prog ops Q rest (a.put o.dst (.tuple #[])) w') : wpList Tryd.prog ops Q (o :: rest) a w := by
  obtain ⟨w', hr, h1, h2⟩ := range_del hm hn hc hl hk o.type
  refine wl_act hw ?_
  unfold Oper.wp
  simp [execOp, ho, resolve, invoke, builtin, hx, hy, hr, Oper.upon, Result.andThen]
  exact h _ h1 h2
end
end Go.Proofs.YtojekoakgpkkdaaDoor

/-
  Own text. The contract of strings.Join at this program.
-/
namespace Go.Proofs.YtojekoakgpkkdaaDoor
open Go.Proofs Go.Shelf
set_option maxRecDepth 100000
def sh_lays156_ren : Go.Shelf.Ren := ⟨fun | 156 => 64 | 165 => 83 | 166 => 84 | 169 => 85 | 240 => 99 | 241 => 100 | 276 => 109 | 277 => 110 | n => n, fun | 31 => 115 | 9 => 9 | 3 => 3 | 4 => 4 | 0 => 0 | 20 => 20 | 72 => 133 | 76 => 136 | 70 => 131 | 37 => 114 | 75 => 135 | 127 => 146 | 164 => 155 | 5 => 5 | 80 => 138 | n => n, fun | n => n⟩
theorem sh_lays156 : Go.Proofs.Lays.n156 Tryd.prog sh_lays156_ren := {
  mixed := by kernel_rfl
  f156 := Tryd.func64.trans (congrArg some (by kernel_rfl))
  f165 := Tryd.func83.trans (congrArg some (by kernel_rfl))
  f166 := Tryd.func84.trans (congrArg some (by kernel_rfl))
  f169 := Tryd.func85.trans (congrArg some (by kernel_rfl))
  f240 := Tryd.func99.trans (congrArg some (by kernel_rfl))
  f241 := Tryd.func100.trans (congrArg some (by kernel_rfl))
  f276 := Tryd.func109.trans (congrArg some (by kernel_rfl))
  f277 := Tryd.func110.trans (congrArg some (by kernel_rfl))
  t0 := Tryd.underlying0
  a0 := Tryd.isAgg0
  z0 := Tryd.sizeOf0
  v0 := Tryd.zeroValue0
  t3 := Tryd.underlying3
  a3 := Tryd.isAgg3
  z3 := Tryd.sizeOf3
  v3 := Tryd.zeroValue3
  t4 := Tryd.underlying4
  a4 := Tryd.isAgg4
  z4 := Tryd.sizeOf4
  v4 := Tryd.zeroValue4
  t9 := Tryd.underlying9
  a9 := Tryd.isAgg9
  z9 := Tryd.sizeOf9
  v9 := Tryd.zeroValue9
  t20 := Tryd.underlying20
  a20 := Tryd.isAgg20
  z20 := Tryd.sizeOf20
  v20 := Tryd.zeroValue20
  t31 := Tryd.underlying115
  a31 := Tryd.isAgg115
  z31 := Tryd.sizeOf115
  v31 := Tryd.zeroValue115
  t37 := Tryd.underlying114
  a37 := Tryd.isAgg114
  z37 := Tryd.sizeOf114
  v37 := Tryd.zeroValue114
  t70 := Tryd.underlying131
  a70 := Tryd.isAgg131
  z70 := Tryd.sizeOf131
  v70 := Tryd.zeroValue131
  t72 := Tryd.underlying133
  a72 := Tryd.isAgg133
  z72 := Tryd.sizeOf133
  v72 := Tryd.zeroValue133
  t75 := Tryd.underlying135
  a75 := Tryd.isAgg135
  z75 := Tryd.sizeOf135
  v75 := Tryd.zeroValue135
  t76 := Tryd.underlying136
  a76 := Tryd.isAgg136
  z76 := Tryd.sizeOf136
  v76 := Tryd.zeroValue136
  t127 := Tryd.underlying146
  a127 := Tryd.isAgg146
  z127 := Tryd.sizeOf146
  v127 := Tryd.zeroValue146
  t164 := Tryd.underlying155
  a164 := Tryd.isAgg155
  z164 := Tryd.sizeOf155
  v164 := Tryd.zeroValue155 }
theorem sh_Builder_Extra_156 : Builder.Extra Tryd.prog sh_lays156_ren := {
  sizeBuilder := by kernel_rfl
  liesBuilder := by kernel_rfl
  t5 := Tryd.underlying5
  a5 := Tryd.isAgg5
  z5 := Tryd.sizeOf5
  v5 := Tryd.zeroValue5
  infoByte := by kernel_rfl
  cellsByte := by kernel_rfl
  sizeByte := by kernel_rfl
  neB5 := by decide }
open Go.RowKit in
theorem sh_strings_Join (bk o c : Nat) (xs : List ByteArray) (sep : ByteArray) (w : World) (hcells : ∀ (j : Nat) x, xs[j]? = some x → w.cell? ⟨bk, o + j, none⟩ = some (.string x)) (hbk : bk < w.heap.size) (hN : xs.length ≤ 140737488355328) (hcap : xs.length ≤ c) (hlen : (Lib.join (xs.map (·.data.toList)) sep.data.toList).length ≤ 140737488355328) :
    Calls Tryd.prog 64 #[.slice (some ⟨bk, o, none⟩) xs.length c, .string sep] w fun e w' => e = .returned (.string ⟨(Lib.join (xs.map (·.data.toList)) sep.data.toList).toArray⟩) ∧ Below w.heap.size w w' := Any.strings_Join sh_lays156 sh_Builder_Extra_156 bk o c xs sep w hcells hbk hN hcap hlen
end Go.Proofs.YtojekoakgpkkdaaDoor

