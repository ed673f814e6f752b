/-
  Own text. Laws of single operations for the layers 12 and above.
-/
import Derived.Test.YtojekoakgpkkdaaDoorJT1
import Derived.Laws.Bits64b
import Derived.Deep.CutBlock
import Derived.Deep.DeepCutAuto
import Derived.ChangeKeysEq
import Derived.Laws.StructEq
namespace Go.Proofs.YtojekoakgpkkdaaDoor
open Go.RowKit Go.Proofs
set_option maxRecDepth 100000
section
variable {a : Act} {o : Oper} {w : World} {x y : Operand}
theorem exec_remW (ho : o.op = .binOp .rem 3 x y 3) {i m q : Nat} (hx : a.eval x = .int .i64 (i : Int)) (hy : a.eval y = .int .i64 (m : Int)) (hq : i % m = q) (hm : 0 < m) : (execOp a.eval o).run Tryd.prog w = .ok (.value (.int .i64 (q : Int))) w := by
  subst hq
  refine exec_bin2 ho hx hy rfl ?_
  have h0 : ¬ m = 0 := by omega
  have e : Int.tmod (i : Int) (m : Int) = (i : Int) % (m : Int) := Int.tmod_eq_emod_of_nonneg (by omega)
  simp [go_sem, h0, e]
theorem exec_quoW (ho : o.op = .binOp .quo 3 x y 3) {i m q : Nat} (hx : a.eval x = .int .i64 (i : Int)) (hy : a.eval y = .int .i64 (m : Int)) (hq : i / m = q) (hm : 0 < m) (hi : i < 9223372036854775808) : (execOp a.eval o).run Tryd.prog w = .ok (.value (.int .i64 (q : Int))) w := by
  subst hq
  refine exec_bin2 ho hx hy rfl ?_
  have h0 : ¬ m = 0 := by omega
  have e : Int.tdiv (i : Int) (m : Int) = (i : Int) / (m : Int) := Int.tdiv_eq_ediv_of_nonneg (by omega)
  have hl : i / m ≤ i := Nat.div_le_self i m
  have hc : (i : Int) / (m : Int) = ((i / m : Nat) : Int) := rfl
  have e2 : IntKind.i64.wrap ((i : Int) / (m : Int)) = (i : Int) / (m : Int) := by rw [hc]; generalize i / m = q at *; rw [IntKind.wrap_i64]; omega
  simp [go_sem, h0, e, e2]
theorem exec_addW (ho : o.op = .binOp .add 3 x y 3) {i m q : Nat} (hx : a.eval x = .int .i64 (i : Int)) (hy : a.eval y = .int .i64 (m : Int)) (hq : i + m = q) (hl : q < 9223372036854775808) : (execOp a.eval o).run Tryd.prog w = .ok (.value (.int .i64 (q : Int))) w := by
  refine exec_bin2 ho hx hy rfl ?_
  have hc : (i : Int) + (m : Int) = (q : Int) := by omega
  have e2 : IntKind.i64.wrap (q : Int) = (q : Int) := by rw [IntKind.wrap_i64]; omega
  simp [go_sem, hc, e2]
theorem exec_subW (ho : o.op = .binOp .sub 3 x y 3) {i m q : Nat} (hx : a.eval x = .int .i64 (i : Int)) (hy : a.eval y = .int .i64 (m : Int)) (hq : i = m + q) (hl : q < 9223372036854775808) : (execOp a.eval o).run Tryd.prog w = .ok (.value (.int .i64 (q : Int))) w := by
  refine exec_bin2 ho hx hy rfl ?_
  have hc : (i : Int) - (m : Int) = (q : Int) := by omega
  have e2 : IntKind.i64.wrap (q : Int) = (q : Int) := by rw [IntKind.wrap_i64]; omega
  simp [go_sem, hc, e2]
theorem exec_mulW (ho : o.op = .binOp .mul 3 x y 3) {i m q : Nat} (hx : a.eval x = .int .i64 (i : Int)) (hy : a.eval y = .int .i64 (m : Int)) (hq : i * m = q) (hl : q < 9223372036854775808) : (execOp a.eval o).run Tryd.prog w = .ok (.value (.int .i64 (q : Int))) w := by
  refine exec_bin2 ho hx hy rfl ?_
  have hc : (i : Int) * (m : Int) = (q : Int) := by rw [← hq]; simp
  have e2 : IntKind.i64.wrap (q : Int) = (q : Int) := by rw [IntKind.wrap_i64]; omega
  simp [go_sem, hc, e2]
theorem exec_cvW (ho : o.op = .convert 5 3 x) {m : Int} (hx : a.eval x = .int .u8 m) (h0 : 0 ≤ m) (h1 : m < 256) : (execOp a.eval o).run Tryd.prog w = .ok (.value (.int .i64 m)) w := by
  have e : IntKind.i64.wrap m = m := by rw [IntKind.wrap_i64]; omega
  unfold execOp
  simp only [ho, hx]
  simp [go_sem, e]
theorem exec_remU (ho : o.op = .binOp .rem 72 x y 72) {i m q : Nat} (hx : a.eval x = .int .u64 (i : Int)) (hy : a.eval y = .int .u64 (m : Int)) (hq : i % m = q) (hm : 0 < m) : (execOp a.eval o).run Tryd.prog w = .ok (.value (.int .u64 (q : Int))) w := by
  subst hq
  refine exec_bin2 ho hx hy rfl ?_
  have h0 : ¬ m = 0 := by omega
  have e : Int.tmod (i : Int) (m : Int) = (i : Int) % (m : Int) := Int.tmod_eq_emod_of_nonneg (by omega)
  simp [go_sem, h0, e]
theorem exec_quoU (ho : o.op = .binOp .quo 72 x y 72) {i m q : Nat} (hx : a.eval x = .int .u64 (i : Int)) (hy : a.eval y = .int .u64 (m : Int)) (hq : i / m = q) (hm : 0 < m) (hi : i < 18446744073709551616) : (execOp a.eval o).run Tryd.prog w = .ok (.value (.int .u64 (q : Int))) w := by
  subst hq
  refine exec_bin2 ho hx hy rfl ?_
  have h0 : ¬ m = 0 := by omega
  have e : Int.tdiv (i : Int) (m : Int) = (i : Int) / (m : Int) := Int.tdiv_eq_ediv_of_nonneg (by omega)
  have hl : i / m ≤ i := Nat.div_le_self i m
  have hc : (i : Int) / (m : Int) = ((i / m : Nat) : Int) := rfl
  have e2 : IntKind.u64.wrap ((i : Int) / (m : Int)) = (i : Int) / (m : Int) := by rw [hc]; generalize i / m = q at *; rw [IntKind.wrap_u64]; omega
  simp [go_sem, h0, e, e2]
theorem exec_mulU (ho : o.op = .binOp .mul 72 x y 72) {i m q : Nat} (hx : a.eval x = .int .u64 (i : Int)) (hy : a.eval y = .int .u64 (m : Int)) (hq : i * m = q) (hl : q < 18446744073709551616) : (execOp a.eval o).run Tryd.prog w = .ok (.value (.int .u64 (q : Int))) w := by
  refine exec_bin2 ho hx hy rfl ?_
  have hc : (i : Int) * (m : Int) = (q : Int) := by rw [← hq]; simp
  have e2 : IntKind.u64.wrap (q : Int) = (q : Int) := by rw [IntKind.wrap_u64]; omega
  simp [go_sem, hc, e2]
theorem exec_addU (ho : o.op = .binOp .add 72 x y 72) {i m q : Nat} (hx : a.eval x = .int .u64 (i : Int)) (hy : a.eval y = .int .u64 (m : Int)) (hq : i + m = q) (hl : q < 18446744073709551616) : (execOp a.eval o).run Tryd.prog w = .ok (.value (.int .u64 (q : Int))) w := by
  refine exec_bin2 ho hx hy rfl ?_
  have hc : (i : Int) + (m : Int) = (q : Int) := by omega
  have e2 : IntKind.u64.wrap (q : Int) = (q : Int) := by rw [IntKind.wrap_u64]; omega
  simp [go_sem, hc, e2]
theorem exec_cvU8 (ho : o.op = .convert 72 5 x) {m : Nat} (hx : a.eval x = .int .u64 (m : Int)) (h1 : m < 256) : (execOp a.eval o).run Tryd.prog w = .ok (.value (.int .u8 (m : Int))) w := by
  have e : IntKind.u8.wrap (m : Int) = (m : Int) := by rw [IntKind.wrap_u8]; omega
  unfold execOp
  simp only [ho, hx]
  simp [go_sem, e]
theorem exec_cv8U (ho : o.op = .convert 5 72 x) {m : Nat} (hx : a.eval x = .int .u8 (m : Int)) (h1 : m < 256) : (execOp a.eval o).run Tryd.prog w = .ok (.value (.int .u64 (m : Int))) w := by
  have e : IntKind.u64.wrap (m : Int) = (m : Int) := by rw [IntKind.wrap_u64]; omega
  unfold execOp
  simp only [ho, hx]
  simp [go_sem, e]
theorem sizeB1 (w : World) : (sizeOf (Tryd.prog.elem 114)).run Tryd.prog w = .ok 1 w := by kernel_rfl
theorem exec_ixB (ho : o.op = .indexAddr 114 x y) {b f n c i : Nat} (hx : a.eval x = .slice (some ⟨b, f, none⟩) n c) (hy : a.eval y = .int .i64 (i : Int)) (hi : i < n) : (execOp a.eval o).run Tryd.prog w = .ok (.value (.pointer (some ⟨b, f + i, none⟩))) w := exec_idx ho (by kernel_rfl) sizeB1 hx hy hi
theorem run_mkB (n : Nat) (hn : n ≤ 65536) (w : World) : (Instr.makeSlice 114 (.int .i64 (n : Int)) (.int .i64 (n : Int))).run Tryd.prog w = .ok (.slice (some ⟨w.heap.size, 0, none⟩) n n) (w.alloc (.cells (WA .u8 n fun _ => 0) 5)) := by
  have hm := run_make_row' (P := Tryd.prog) 114 5 (.int .u8 0) 1 Tryd.underlying114 infoByte rfl .i64 .i64 n (by omega) (by omega) w
  rw [made_WA] at hm
  exact hm
theorem wl_mkB {ops : Array Oper} {rest : List Oper} {Q : Exit → Act → World → Prop} {n : Nat} (ho : o.op = .makeSlice 114 x y) (hw : Region.wanted o (yielded ops a.tmps) = true) (hx : a.eval x = .int .i64 (n : Int)) (hy : a.eval y = .int .i64 (n : Int)) (hn : n ≤ 65536)
    (h : ∀ g w', w.heap.size ≤ g → RowAt w' g .u8 5 n (fun _ => 0) → Below w.heap.size w w' → wpList Tryd.prog ops Q rest (a.put o.dst (.slice (some ⟨g, 0, none⟩) n n)) w') : wpList Tryd.prog ops Q (o :: rest) a w := by
  have hr := run_mkB n hn w
  refine wl_act hw ?_
  unfold Oper.wp execOp
  simp only [ho, hx, hy, Sem.run_bind, hr, Result.andThen_ok, Sem.run_pure, Oper.upon]
  exact h _ _ (Nat.le_refl _) (RowAt.of (heap_alloc_new w _)) ((Below.refl _ _).alloc (Nat.le_refl _) _)
theorem wl_st8 {ops : Array Oper} {rest : List Oper} {Q : Exit → Act → World → Prop} {g n i : Nat} {s : Nat → Int} {v : Int} {ty : TypeId} (ho : o.op = .store 5 x y) (hw : Region.wanted o (yielded ops a.tmps) = true) (hg : RowAt w g .u8 ty n s) (hx : a.eval x = .pointer (some ⟨g, i, none⟩)) (hy : a.eval y = .int .u8 v) (hi : i < n)
    (h : ∀ w2, RowAt w2 g .u8 ty n (upd s i v) → Only g w w2 → wpList Tryd.prog ops Q rest (a.put o.dst undef) w2) : wpList Tryd.prog ops Q (o :: rest) a w := by
  refine wl_act hw ?_
  have hc := hg.cell i hi
  have hf := hg.free i hi
  have hr : (Instr.storeAt 5 (.pointer (some ⟨g, i, none⟩)) (.int .u8 v)).run Tryd.prog w = .ok () (w.setCell ⟨g, i, none⟩ (.int .u8 v)) := by simp [go_sem, hc, hf]
  unfold Oper.wp execOp
  simp only [ho, hx, hy, Sem.run_bind, hr, Result.andThen_ok, Sem.run_pure, Oper.upon]
  exact h _ (hg.set i v) only_set
end
/-- Two structs as parameters. -/
theorem wl_boxWW {ops : Array Oper} {rest : List Oper} {o1 o2 : Oper} {x y : Operand} {ty ty' : TypeId} {a : Act} {w : World} {Q : Exit → Act → World → Prop} {n n' : Nat} {V V' : Nat → Value} (h1 : o1.op = .box ty x) (h2 : o2.op = .box ty' y) (w1 : o1.guard = none) (w2 : o2.guard = none) (hA : IsSt ty n) (hA' : IsSt ty' n') (hx : a.eval x = .agg (SC n V)) (hy : ∀ u, (a.put o1.dst u).eval y = .agg (SC n' V'))
    (h : ∀ g g' w', w.heap.size ≤ g → g < g' → SAt w' g ty n V → SAt w' g' ty' n' V' → Below w.heap.size w w' → wpList Tryd.prog ops Q rest ((a.put o1.dst (.pointer (some ⟨g, 0, none⟩))).put o2.dst (.pointer (some ⟨g', 0, none⟩))) w') : wpList Tryd.prog ops Q (o1 :: o2 :: rest) a w := by
  have q1 : Region.wanted o1 (yielded ops a.tmps) = true := by unfold Region.wanted; rw [w1]
  refine wl_boxO h1 q1 hA hx (fun g u hg s1 b1 => ?_)
  have q2 : Region.wanted o2 (yielded ops (a.put o1.dst (.pointer (some ⟨g, 0, none⟩))).tmps) = true := by unfold Region.wanted; rw [w2]
  refine wl_boxO h2 q2 hA' (hy _) (fun g' u' hg' s2 b2 => ?_)
  exact h g g' u' hg (by have := SAt.lt s1; omega) (SAt.kept s1 b2) s2 (b1.trans (b2.mono b1.size))
end Go.Proofs.YtojekoakgpkkdaaDoor

/-
  Own text. The document's joined and Sum: the Internet checksum as a number.
-/
namespace Go.Proofs.YtojekoakgpkkdaaDoor
open Go.RowKit Go.Proofs Go.Lib
set_option maxRecDepth 100000
/-- The sum of the first n bytes, each at an even place 256 times. -/
def sw (f : Nat → Int) : Nat → Int
  | 0 => 0
  | i + 1 => sw f i + (if i % 2 = 0 then 256 * f i else f i)
/-- A sum from which 65535 was taken while it was above that. -/
def cano (s : Int) : Int := if s = 0 then 0 else (s - 1) % 65535 + 1
def sumT (T : ByteArray) : Int := 65535 - cano (sw (txt T) T.size)
theorem sw_nn {f : Nat → Int} (h : ∀ i, 0 ≤ f i) : ∀ n, 0 ≤ sw f n
  | 0 => by unfold sw; omega
  | n + 1 => by
    have := sw_nn h n
    have := h n
    unfold sw
    split <;> omega
theorem cano_b (s : Int) : 0 ≤ cano s ∧ cano s ≤ 65535 := by
  unfold cano
  split <;> omega
theorem cano_add {s b : Int} (hs : 0 ≤ s) (h0 : 0 ≤ b) (h1 : b ≤ 65535) : cano (s + b) = if 65535 < cano s + b then cano s + b - 65535 else cano s + b := by
  unfold cano
  by_cases e : s = 0
  · subst e
    by_cases e2 : b = 0
    · subst e2
      simp
    · rw [if_neg (by omega), if_pos rfl]
      split <;> omega
  · rw [if_neg (by omega), if_neg e]
    split <;> omega
theorem sumT_b (T : ByteArray) : 0 ≤ sumT T ∧ sumT T ≤ 65535 := by
  have := cano_b (sw (txt T) T.size)
  unfold sumT
  omega
set_option maxHeartbeats 4000000 in
theorem rjoined_run (v : Value) (n : Nat) (ts : Nat → ByteArray) (w : World) (hv : Strs w v n ts) (hn : n < 4611686018427387904) (hs : (joinB ts n).size ≤ 140737488355328) :
    Calls Tryd.prog 90 #[v] w fun e w' => e = .returned (.string (joinB ts n)) ∧ Below w.heap.size w w' := by
  obtain ⟨a, c, rfl, hp⟩ := hv
  have HP := Hid.mk hp
  clear hp
  obtain ⟨inf, hi1, hi2, hi3, hi4⟩ := infoByte1
  have HI4 := Hid.mk (And.intro hi1 (And.intro hi2 (And.intro hi3 hi4)))
  clear hi1 hi2 hi3 hi4
  go_enter Tryd.func90, Tryd.ntmps90
  go_wp2_with fail
  go_loopg [3, 4] n (fun gm ov iv v => ∃ i : Nat, Hid (gm + i = n) ∧ iv = .int .i64 (i : Int) ∧ Hid (v.ownsRow w.heap.size 5 1 ov (joinB ts i).size (strCells (joinB ts i))) ∧ Below w.heap.size w v)
  case atStart => exact ⟨0, Hid.mk rfl, rfl, Hid.mk ⟨rfl, .inl ⟨rfl, rfl⟩⟩, Below.refl _ w⟩
  case round =>
    obtain ⟨i, HI, rfl, hO, hB⟩ := hrel
    have hin : i ≤ n := by have := HI.out; omega
    by_cases hil : i < n
    · obtain ⟨p, rfl, hc⟩ := HP.out (by omega)
      have hc0 := hc i hil
      have hc1 : wr.cell? (p.add i) = some (.string (ts i)) := (hB.cell (World.block_lt_of_cell? _ _ hc0)).trans hc0
      have hsz : (joinB ts i).size + (ts i).size ≤ 140737488355328 := by
        have h1 := joinB_mono ts (show i + 1 ≤ n from hil)
        rw [joinB, ByteArray.size_append] at h1
        omega
      clear hc0
      go_wp2_with (at_builtin; refine wpList_append_own_string _ rfl _ _ 114 9 (by rfl) w.heap.size 5 inf Tryd.underlying114 Tryd.underlying9 HI4.out.1 HI4.out.2.1 HI4.out.2.2.1 HI4.out.2.2.2 _ _ _ (by rfl) hO.out (ts i) (by rfl) (by unfold maxLen; omega) hsz hB.size ?_; intro vb v4 h4 hg4 _; refine Hid.out ?_)
      have hB4 := hB.trans (Below.grow hg4 hB.size (own_base hO.out))
      rw [← strCells_cat, ← ByteArray.size_append] at h4
      refine Hid.mk ?_
      go_wp2_with fail
      go_roundg (n - (i + 1))
      case rel => exact ⟨i + 1, Hid.mk (by omega), by go_num, Hid.mk h4, hB4⟩
      case measure => have := HI.out; omega
    · have hi2 : i = n := by omega
      subst hi2
      have hcv := str_own hO.out
      go_wp2_with fail
      go_ret
      exact ⟨rfl, hB⟩
set_option maxHeartbeats 4000000 in
theorem rSum_run (v : Value) (n : Nat) (ts : Nat → ByteArray) (w : World) (hv : Strs w v n ts) (hn : n < 4611686018427387904) (hs : (joinB ts n).size ≤ 140737488355328) :
    Calls Tryd.prog 68 #[v] w fun e w' => e = .returned (.int .i64 (sumT (joinB ts n))) ∧ Below w.heap.size w w' := by
  have HJ := Hid.mk (rjoined_run v n ts w hv hn hs)
  generalize joinB ts n = T at *
  clear hv hn
  go_enter Tryd.func68, Tryd.ntmps68
  go_wp2_with fail
  refine HJ.out.mono ?_
  rintro e w1 ⟨rfl, hB1⟩
  clear HJ
  obtain ⟨N, hN⟩ : ∃ N, T.size = N := ⟨_, rfl⟩
  go_wp2_with fail
  go_loopg [4, 5] N (fun gm s4 s5 z => ∃ i : Nat, gm = N - i ∧ i ≤ N ∧ s5 = .int .i64 (i : Int) ∧ s4 = .int .i64 (cano (sw (txt T) i)) ∧ z = w1)
  case atStart => exact ⟨0, rfl, by omega, rfl, rfl, rfl⟩
  case round =>
    obtain ⟨i, hgm, hin, rfl, rfl, hz⟩ := hrel
    subst hz
    have hb := txt_b T i
    have hc := cano_b (sw (txt T) i)
    have hs0 := sw_nn (fun i => (txt_b T i).1) i
    by_cases hlt : i < N
    · have hlts : i < T.size := by omega
      have hi63 : (i : Int) + 1 ≤ 9223372036854775807 := by omega
      have hlti : (i : Int) < (N : Int) := by omega
      obtain ⟨r, hr⟩ : ∃ r, i % 2 = r := ⟨_, rfl⟩
      obtain ⟨b, hbe⟩ : ∃ b, txt T i = b := ⟨_, rfl⟩
      obtain ⟨c, hce⟩ : ∃ c, cano (sw (txt T) i) = c := ⟨_, rfl⟩
      have HC : Hid (cano (sw (txt T) (i + 1)) = if 65535 < c + (if r = 0 then b * 256 else b) then c + (if r = 0 then b * 256 else b) - 65535 else c + (if r = 0 then b * 256 else b)) := Hid.mk (by
        have h1 := cano_add (s := sw (txt T) i) (b := if i % 2 = 0 then 256 * txt T i else txt T i) hs0 (by split <;> omega) (by split <;> omega)
        rw [hce, hr, hbe, Int.mul_comm 256 b] at h1
        show cano (sw (txt T) i + _) = _
        rw [hr, hbe, Int.mul_comm 256 b]
        exact h1)
      have HB : Hid (T.size = N ∧ txt T i = b ∧ i % 2 = r) := Hid.mk ⟨hN, hbe, hr⟩
      have hr2 : r = 0 ∨ r = 1 := by omega
      rw [hce] at hc ⊢
      rw [hbe] at hb
      clear hbe hce hs0 hr hlts
      rcases hr2 with rfl | rfl
      · by_cases hgt : 65535 < c + b * 256
        · have e1 := HC.out
          rw [if_pos rfl, if_pos hgt] at e1
          have HE := Hid.mk e1
          clear e1 HC
          go_wp2_with (first | (refine wl_value rfl (exec_ixs rfl (by rfl) (by rfl) (by rw [HB.out.1]; exact hlt)) ?_; simp only [HB.out.2.1]) | (refine wl_value rfl (exec_remW (i := i) (m := 2) rfl (by rfl) (by rfl) HB.out.2.2 (by decide)) ?_))
          go_roundg (N - (i + 1))
          case rel => exact ⟨i + 1, rfl, by omega, by go_num, by rw [HE.out], rfl⟩
          case measure => omega
        · have e1 := HC.out
          rw [if_pos rfl, if_neg hgt] at e1
          have HE := Hid.mk e1
          clear e1 HC
          go_wp2_with (first | (refine wl_value rfl (exec_ixs rfl (by rfl) (by rfl) (by rw [HB.out.1]; exact hlt)) ?_; simp only [HB.out.2.1]) | (refine wl_value rfl (exec_remW (i := i) (m := 2) rfl (by rfl) (by rfl) HB.out.2.2 (by decide)) ?_))
          go_roundg (N - (i + 1))
          case rel => exact ⟨i + 1, rfl, by omega, by go_num, by rw [HE.out], rfl⟩
          case measure => omega
      · by_cases hgt : 65535 < c + b
        · have e1 := HC.out
          rw [if_neg (show ¬ (1 : Nat) = 0 by decide), if_pos hgt] at e1
          have HE := Hid.mk e1
          clear e1 HC
          go_wp2_with (first | (refine wl_value rfl (exec_ixs rfl (by rfl) (by rfl) (by rw [HB.out.1]; exact hlt)) ?_; simp only [HB.out.2.1]) | (refine wl_value rfl (exec_remW (i := i) (m := 2) rfl (by rfl) (by rfl) HB.out.2.2 (by decide)) ?_))
          go_roundg (N - (i + 1))
          case rel => exact ⟨i + 1, rfl, by omega, by go_num, by rw [HE.out], rfl⟩
          case measure => omega
        · have e1 := HC.out
          rw [if_neg (show ¬ (1 : Nat) = 0 by decide), if_neg hgt] at e1
          have HE := Hid.mk e1
          clear e1 HC
          go_wp2_with (first | (refine wl_value rfl (exec_ixs rfl (by rfl) (by rfl) (by rw [HB.out.1]; exact hlt)) ?_; simp only [HB.out.2.1]) | (refine wl_value rfl (exec_remW (i := i) (m := 2) rfl (by rfl) (by rfl) HB.out.2.2 (by decide)) ?_))
          go_roundg (N - (i + 1))
          case rel => exact ⟨i + 1, rfl, by omega, by go_num, by rw [HE.out], rfl⟩
          case measure => omega
    · obtain rfl : i = N := by omega
      have hlti : ¬ (i : Int) < (i : Int) := by omega
      go_wp2_with fail
      go_ret
      exact ⟨by unfold sumT; rw [hN]; rfl, hB1⟩
end Go.Proofs.YtojekoakgpkkdaaDoor

/-
  Own text. The program's own checksum: it is the number that the document's sum is.
-/
namespace Go.Proofs.YtojekoakgpkkdaaDoor
open Go.RowKit Go.Proofs
set_option maxRecDepth 100000
section
variable {a : Act} {o : Oper} {w : World} {x y : Operand} {t : TypeId}
theorem exec_shr16 (ho : o.op = .binOp .shr 72 x y t) {i q : Nat} (hx : a.eval x = .int .u64 (i : Int)) (hy : a.eval y = .int .u64 16) (hq : i / 65536 = q) : (execOp a.eval o).run Tryd.prog w = .ok (.value (.int .u64 (q : Int))) w := by
  subst hq
  refine exec_bin2 ho hx hy rfl ?_
  simp [go_sem]
theorem exec_shl8U (ho : o.op = .binOp .shl 72 x y t) {i q : Nat} (hx : a.eval x = .int .u64 (i : Int)) (hy : a.eval y = .int .u64 8) (hq : i * 256 = q) (hl : q < 18446744073709551616) : (execOp a.eval o).run Tryd.prog w = .ok (.value (.int .u64 (q : Int))) w := by
  subst hq
  refine exec_bin2 ho hx hy rfl ?_
  have e2 : IntKind.u64.wrap ((i : Int) * 256) = ((i * 256 : Nat) : Int) := by rw [IntKind.wrap_u64]; omega
  simp [go_sem, e2]
theorem exec_andU (ho : o.op = .binOp .and 72 x y 72) {i q : Nat} (hx : a.eval x = .int .u64 (i : Int)) (hy : a.eval y = .int .u64 65535) (hl : i < 18446744073709551616) (hq : i % 65536 = q) : (execOp a.eval o).run Tryd.prog w = .ok (.value (.int .u64 (q : Int))) w := by
  subst hq
  refine exec_bin2 ho hx hy rfl ?_
  have e := bits_and_u64_nat i 65535 hl (by decide)
  have e2 : i &&& 65535 = i % 65536 := Nat.and_two_pow_sub_one_eq_mod i 16
  rw [e2] at e
  have e3 : bits .and .u64 (i : Int) 65535 = ((i % 65536 : Nat) : Int) := e
  simp [go_sem, e3]
theorem exec_orU8 (ho : o.op = .binOp .or 72 x y 72) {i c q : Nat} (hx : a.eval x = .int .u64 ((i * 256 : Nat) : Int)) (hy : a.eval y = .int .u64 (c : Int)) (hc : c < 256) (hq : i * 256 + c = q) (hl : q < 18446744073709551616) : (execOp a.eval o).run Tryd.prog w = .ok (.value (.int .u64 (q : Int))) w := by
  subst hq
  refine exec_bin2 ho hx hy rfl ?_
  have e := bits_or_u64_nat (i * 256) c (by omega) (by omega)
  have e2 : i * 256 ||| c = i * 256 + c := by
    have := Nat.two_pow_add_eq_or_of_lt (show c < 2 ^ 8 from hc) i
    rw [Nat.mul_comm i 256]
    exact this.symm
  rw [e2] at e
  have e3 : bits .or .u64 ((i : Int) * 256) (c : Int) = (i : Int) * 256 + (c : Int) := e
  simp [go_sem, e3]
theorem exec_cvUI (ho : o.op = .convert 72 3 x) {m : Nat} (hx : a.eval x = .int .u64 (m : Int)) (h1 : m < 9223372036854775808) : (execOp a.eval o).run Tryd.prog w = .ok (.value (.int .i64 (m : Int))) w := by
  have e : IntKind.i64.wrap (m : Int) = (m : Int) := by rw [IntKind.wrap_i64]; omega
  unfold execOp
  simp only [ho, hx]
  simp [go_sem, e]
end
theorem joinB_at (ts : Nat → ByteArray) {i cnt : Nat} (hi : i < cnt) {j : Nat} (hj : j < (ts i).size) : txt (joinB ts cnt) ((joinB ts i).size + j) = txt (ts i) j := by
  induction cnt with
  | zero => omega
  | succ n ih =>
    rw [joinB, txt_append]
    by_cases e : i = n
    · subst e
      rw [if_neg (by omega), Nat.add_sub_cancel_left]
    · have h1 := joinB_mono ts (show i + 1 ≤ n by omega)
      rw [joinB, ByteArray.size_append] at h1
      rw [if_pos (by omega)]
      exact ih (by omega)
theorem cano_small {s : Int} (h0 : 0 ≤ s) (h1 : s ≤ 65535) : cano s = s := by
  unfold cano
  split <;> omega
theorem cano_fold {s : Nat} (h : 65535 < s) : cano ((s / 65536 + s % 65536 : Nat) : Int) = cano (s : Int) := by
  unfold cano
  rw [if_neg (by omega), if_neg (by omega)]
  omega
theorem sw_le {f : Nat → Int} (h : ∀ i, 0 ≤ f i ∧ f i < 256) : ∀ n : Nat, sw f n ≤ 65280 * (n : Int)
  | 0 => by unfold sw; omega
  | n + 1 => by
    have ih := sw_le h n
    have := h n
    unfold sw
    split <;> omega
set_option maxHeartbeats 4000000 in
theorem folded_run (s : Nat) (w : World) (hs : s < 9223372036854775808) : Calls Tryd.prog 87 #[.int .u64 (s : Int)] w fun e w' => e = .returned (.int .i64 (cano (s : Int))) ∧ w' = w := by
  go_enter Tryd.func87, Tryd.ntmps87
  go_wp2_with fail
  go_loopg [0] s (fun gm s0 z => ∃ k : Nat, gm = k ∧ k ≤ s ∧ s0 = .int .u64 (k : Int) ∧ Hid (cano (k : Int) = cano (s : Int)) ∧ z = w)
  case atStart => exact ⟨s, rfl, by omega, rfl, Hid.mk rfl, rfl⟩
  case round =>
    obtain ⟨k, hgm, hk, rfl, HC, hz⟩ := hrel
    subst hz
    by_cases h : 65535 < k
    · have hi : (65535 : Int) < (k : Int) := by omega
      obtain ⟨p, hp⟩ : ∃ p, k / 65536 = p := ⟨_, rfl⟩
      obtain ⟨r, hr⟩ : ∃ r, k % 65536 = r := ⟨_, rfl⟩
      have HE : Hid (cano ((p + r : Nat) : Int) = cano (s : Int)) := Hid.mk (by rw [← hp, ← hr, cano_fold h]; exact HC.out)
      have HP := Hid.mk (And.intro hp hr)
      have h3 : p + r < k := by omega
      clear hp hr HC
      go_wp2_with (first | (refine wl_value rfl (exec_shr16 (i := k) rfl (by rfl) (by rfl) HP.out.1) ?_) | (refine wl_value rfl (exec_andU (i := k) rfl (by rfl) (by rfl) (by omega) HP.out.2) ?_) | (refine wl_value rfl (exec_addU (i := p) (m := r) rfl (by rfl) (by rfl) rfl (by omega)) ?_))
      go_roundg (p + r)
      case rel => exact ⟨p + r, rfl, by omega, rfl, HE, rfl⟩
      case measure => omega
    · have hi : ¬ (65535 : Int) < (k : Int) := by omega
      have HE : Hid (cano (s : Int) = (k : Int)) := Hid.mk (by rw [← HC.out]; exact cano_small (by omega) (by omega))
      go_wp2_with (refine wl_value rfl (exec_cvUI (m := k) rfl (by rfl) (by omega)) ?_)
      go_ret
      exact ⟨by rw [HE.out]; rfl, rfl⟩
theorem weighed_run (b : Nat) (odd : Bool) (w : World) (hb : b < 256) : Calls Tryd.prog 86 #[.int .u8 (b : Int), .bool odd] w fun e w' => e = .returned (.int .u64 (((if odd = true then b else b * 256 : Nat)) : Int)) ∧ w' = w := by
  go_enter Tryd.func86, Tryd.ntmps86
  cases odd
  · go_wp2_with (first | (refine wl_value rfl (exec_cv8U (m := b) rfl (by rfl) hb) ?_) | (refine wl_value rfl (exec_shl8U (i := b) rfl (by rfl) (by rfl) rfl (by omega)) ?_))
    go_ret
    exact ⟨rfl, rfl⟩
  · go_wp2_with (refine wl_value rfl (exec_cv8U (m := b) rfl (by rfl) hb) ?_)
    go_ret
    exact ⟨rfl, rfl⟩
set_option maxHeartbeats 4000000 in
theorem Sum_run (v : Value) (n : Nat) (ts : Nat → ByteArray) (w : World) (hv : Strs w v n ts) (hn : n < 4611686018427387904) (hs : (joinB ts n).size ≤ 140737488355328) :
    Calls Tryd.prog 65 #[v] w fun e w' => e = .returned (.int .i64 (sumT (joinB ts n))) ∧ w' = w := by
  obtain ⟨a, c, rfl, hp⟩ := hv
  have HP := Hid.mk hp
  clear hp
  have HA := Hid.mk (fun (i : Nat) (hi : i < n) (j : Nat) (hj : j < (ts i).size) => joinB_at ts hi hj)
  have HZ : Hid (∀ i, i < n → (joinB ts i).size + (ts i).size ≤ (joinB ts n).size) := Hid.mk (fun i hi => by
    have h1 := joinB_mono ts (show i + 1 ≤ n from hi)
    rw [joinB, ByteArray.size_append] at h1
    exact h1)
  have HSU : Hid (∀ i, (joinB ts (i + 1)).size = (joinB ts i).size + (ts i).size) := Hid.mk (fun i => by rw [joinB, ByteArray.size_append])
  have HEN : Hid ((joinB ts n).size = (joinB ts n).size) := Hid.mk rfl
  have hP0 : (joinB ts 0).size = 0 := rfl
  have HT : Hid (sumT (joinB ts n) = 65535 - cano (sw (txt (joinB ts n)) (joinB ts n).size)) := Hid.mk rfl
  generalize hTe : joinB ts n = T at *
  obtain ⟨P, hPe⟩ : ∃ P : Nat → Nat, P = fun i => (joinB ts i).size := ⟨_, rfl⟩
  have HPn : Hid (P n = T.size) := Hid.mk (by rw [hPe, ← hTe])
  have HA : Hid (∀ i, i < n → ∀ j, j < (ts i).size → txt T (P i + j) = txt (ts i) j) := Hid.mk (by rw [hPe]; exact HA.out)
  have HZ : Hid (∀ i, i < n → P i + (ts i).size ≤ T.size) := Hid.mk (by rw [hPe]; exact HZ.out)
  have HSU : Hid (∀ i, P (i + 1) = P i + (ts i).size) := Hid.mk (by rw [hPe]; exact HSU.out)
  have hP0 : P 0 = 0 := by rw [hPe]; rfl
  have HSL : Hid (∀ k : Nat, k ≤ T.size → sw (txt T) k < 9223372036854775808) := Hid.mk (fun k hk => by
    have := sw_le (fun i => txt_b T i) k
    omega)
  clear hTe hPe HEN
  have HS0 : Hid (∀ k : Nat, sw (txt T) (k + 1) = sw (txt T) k + (if k % 2 = 0 then 256 * txt T k else txt T k)) := Hid.mk (fun k => rfl)
  go_enter Tryd.func65, Tryd.ntmps65
  go_wp2_with fail
  go_loopg [3, 4, 10] n (fun gm s3 s4 s10 z => ∃ (i M : Nat) (d : Bool), Hid (gm + i = n) ∧ s10 = .int .i64 (i : Int) ∧ s3 = .int .u64 (M : Int) ∧ s4 = .bool d ∧ Hid ((M : Int) = sw (txt T) (P i) ∧ d = decide (P i % 2 = 1)) ∧ z = w)
  case atStart => exact ⟨0, 0, false, Hid.mk rfl, rfl, rfl, rfl, Hid.mk (by rw [hP0]; exact ⟨rfl, rfl⟩), rfl⟩
  case round =>
    obtain ⟨i, M, d, HI, rfl, rfl, rfl, HM, hz⟩ := hrel
    have hz2 := hz.symm
    subst hz2
    clear hz
    have hin : i ≤ n := by have := HI.out; omega
    by_cases hil : i < n
    · have hili : (i : Int) < (n : Int) := by omega
      obtain ⟨p, rfl, hc⟩ := HP.out (by omega)
      have hc0 := hc i hil
      clear hc
      have HAi : Hid (∀ j, j < (ts i).size → txt T (P i + j) = txt (ts i) j) := Hid.mk (HA.out i hil)
      have hZi := HZ.out i hil
      have HSi := Hid.mk (HSU.out i)
      generalize ts i = S at *
      obtain ⟨N, hN⟩ : ∃ N, S.size = N := ⟨_, rfl⟩
      have HN := Hid.mk hN
      rw [hN] at hZi
      obtain ⟨K, hK⟩ : ∃ K, P i = K := ⟨_, rfl⟩
      rw [hK] at HM hZi
      have HK := Hid.mk hK
      clear hK
      go_wp2_with fail
      clear hN
      have HGK := Hid.mk HI.out
      generalize gk = gk0 at *
      go_loopg [3, 4, 16] N (fun gm s3 s4 s16 z => ∃ (j M : Nat) (d : Bool), Hid (gm + j = N) ∧ s16 = .int .i64 (j : Int) ∧ s3 = .int .u64 (M : Int) ∧ s4 = .bool d ∧ Hid ((M : Int) = sw (txt T) (K + j) ∧ d = decide ((K + j) % 2 = 1)) ∧ z = w)
      case atStart => exact ⟨0, M, d, Hid.mk rfl, rfl, rfl, rfl, HM, rfl⟩
      case round =>
        obtain ⟨j, M, d, HJ, rfl, rfl, rfl, HM, hz⟩ := hrel
        have hz2 := hz.symm
        subst hz2
        clear hz
        have hjn : j ≤ N := by have := HJ.out; omega
        by_cases hjl : j < N
        · have hjli : (j : Int) < (N : Int) := by omega
          obtain ⟨b, hb⟩ : ∃ b : Nat, txt S j = (b : Int) := ⟨(txt S j).toNat, by have := txt_b S j; omega⟩
          have hbl : b < 256 := by have := txt_b S j; omega
          have hjS : j < S.size := by rw [HN.out]; exact hjl
          have h1 := HS0.out (K + j)
          have h2 := HAi.out j hjS
          rw [HK.out] at h2
          rw [h2, hb, ← HM.out.1] at h1
          have hlim := HSL.out (K + j + 1) (by omega)
          have HD := Hid.mk HM.out.2
          have HE : Hid (((M + (if d = true then b else b * 256) : Nat) : Int) = sw (txt T) (K + (j + 1)) ∧ (!d) = decide ((K + (j + 1)) % 2 = 1)) := Hid.mk (by
            rw [← Nat.add_assoc, h1, HD.out]
            rcases Nat.mod_two_eq_zero_or_one (K + j) with e | e
            · rw [if_pos e, if_neg (by rw [e]; decide)]
              refine ⟨by omega, ?_⟩
              rw [e]
              have : (K + j + 1) % 2 = 1 := by omega
              rw [this]; rfl
            · rw [if_neg (show ¬ (K + j) % 2 = 0 by omega), if_pos (show decide ((K + j) % 2 = 1) = true by rw [e]; decide)]
              refine ⟨by omega, ?_⟩
              rw [e]
              have : (K + j + 1) % 2 = 0 := by omega
              rw [this]; rfl)
          have hml : M + (if d = true then b else b * 256) < 18446744073709551616 := by
            have := HE.out.1
            rw [Nat.add_assoc K j 1] at hlim
            omega
          generalize hq : (if d = true then b else b * 256) = q at *
          have HQ := Hid.mk hq
          have HB := Hid.mk hb
          clear h1 h2 hlim HD hq HM hb
          go_wp2_with (first | (refine wl_value rfl (exec_ixs rfl (by rfl) (by rfl) hjS) ?_; simp only [HB.out]) | (go_at_call 86; refine (weighed_run b d _ hbl).mono ?_; rintro e w2 ⟨rfl, rfl⟩; simp only [HQ.out]) | (refine wl_value rfl (exec_addU (i := M) (m := q) rfl (by rfl) (by rfl) rfl hml) ?_))
          go_roundg (N - (j + 1))
          case rel => exact ⟨j + 1, M + q, !d, Hid.mk (by omega), by go_num, rfl, rfl, HE, rfl⟩
          case measure => have := HJ.out; omega
        · have hjn2 : j = N := by omega
          subst hjn2
          have HM2 : Hid ((M : Int) = sw (txt T) (P (i + 1)) ∧ d = decide (P (i + 1) % 2 = 1)) := Hid.mk (by
            have := HSi.out
            rw [HN.out, HK.out] at this
            rw [this]
            exact HM.out)
          go_wp2_with fail
          go_roundg (n - (i + 1))
          case rel => exact ⟨i + 1, M, d, Hid.mk (by omega), by go_num, rfl, rfl, HM2, rfl⟩
          case measure => have := HGK.out; omega
    · have hi2 : i = n := by omega
      subst hi2
      have hM := HM.out.1
      rw [HPn.out] at hM
      have hl := HSL.out T.size (Nat.le_refl _)
      have hMl : M < 9223372036854775808 := by omega
      have HF : Hid (65535 - cano (M : Int) = sumT T) := Hid.mk (by rw [HT.out, hM])
      have hcb := cano_b (M : Int)
      clear hM hl
      go_wp2_with (go_at_call 87; refine (folded_run M _ hMl).mono ?_; rintro e w2 ⟨rfl, rfl⟩)
      go_ret
      exact ⟨by rw [← HF.out]; go_num, rfl⟩
end Go.Proofs.YtojekoakgpkkdaaDoor

/-
  Own text. The document's Put and Get: numbers as bytes.
-/
namespace Go.Proofs.YtojekoakgpkkdaaDoor
open Go.RowKit Go.Proofs Go.Lib
set_option maxRecDepth 100000
/-- The j-th of size bytes of a number, the highest first. -/
def putF (N size j : Nat) : Int := ((N / 256 ^ (size - 1 - j) % 256 : Nat) : Int)
def putT (N size : Nat) : ByteArray := mkS size (putF N size)
theorem putF_b (N size j : Nat) : 0 ≤ putF N size j ∧ putF N size j < 256 := by unfold putF; omega
/-- The number of size bytes from a place on. -/
def getN (f : Nat → Int) (at0 : Nat) : Nat → Nat
  | 0 => 0
  | i + 1 => getN f at0 i * 256 + (f (at0 + i)).toNat
theorem getN_lt {f : Nat → Int} (hf : ∀ j, 0 ≤ f j ∧ f j < 256) (at0 : Nat) : ∀ i, getN f at0 i < 256 ^ i
  | 0 => by simp [getN]
  | i + 1 => by
    have := getN_lt hf at0 i
    have := hf (at0 + i)
    unfold getN
    rw [Nat.pow_succ]
    omega
set_option maxHeartbeats 4000000 in
theorem rPut_run (N size : Nat) (w : World) (hN : N < 18446744073709551616) (h1 : 1 ≤ size) (h8 : size ≤ 8) : Calls Tryd.prog 36 #[.int .u64 (N : Int), .int .i64 (size : Int)] w fun e w' => e = .returned (.string (putT N size)) ∧ Below w.heap.size w w' := by
  have i1 : ¬ (size : Int) < 1 := by omega
  have i8 : ¬ (8 : Int) < (size : Int) := by omega
  go_enter Tryd.func36, Tryd.ntmps36
  go_wp2_with (refine wl_mkB rfl rfl (by rfl) (by rfl) (by omega) ?_; intro g w1 hg q1 hB1; refine Hid.out ?_)
  refine Hid.mk ?_
  go_wp2_with fail
  go_loopg [0, 6] size (fun gm s0 s6 z => ∃ k : Nat, gm = k ∧ k ≤ size ∧ s6 = .int .i64 ((k : Int) - 1) ∧ s0 = .int .u64 ((N / 256 ^ (size - k) : Nat) : Int) ∧ Hid (RowAt z g .u8 5 size (fun j => if k ≤ j then putF N size j else 0)) ∧ Below w.heap.size w z)
  case atStart => exact ⟨size, rfl, by omega, rfl, by rw [Nat.sub_self, Nat.pow_zero, Nat.div_one], Hid.mk (q1.mono (Nat.le_refl _) (fun i hi => by rw [if_neg (by omega)])), hB1⟩
  case round =>
    obtain ⟨k, hgm, hk, rfl, rfl, HR, hB⟩ := hrel
    by_cases hk0 : k = 0
    · subst hk0
      have hcv := str_back size g size wr size (putF N size) (HR.out.mono (Nat.le_refl _) (fun i _ => by rw [if_pos (by omega)])) (fun j _ => putF_b N size j) rfl
      go_wp2_with (refine wl_value rfl (exec_conv rfl (by rfl) hcv) ?_)
      go_ret
      exact ⟨rfl, hB⟩
    · obtain ⟨i, rfl⟩ : ∃ i, k = i + 1 := ⟨k - 1, by omega⟩
      have e1 : ((i + 1 : Nat) : Int) - 1 = (i : Int) := by omega
      rw [e1]
      clear e1
      have hi0 : (0 : Int) ≤ (i : Int) := by omega
      obtain ⟨M, hM⟩ : ∃ M, N / 256 ^ (size - (i + 1)) = M := ⟨_, rfl⟩
      have hMl : M < 18446744073709551616 := by rw [← hM]; exact Nat.lt_of_le_of_lt (Nat.div_le_self _ _) hN
      have HM : Hid (N / 256 ^ (size - i) = M / 256 ∧ putF N size i = ((M % 256 : Nat) : Int)) := Hid.mk (by
        rw [← hM, Nat.div_div_eq_div_mul, ← Nat.pow_succ, show (size - (i + 1)).succ = size - i by omega]
        refine ⟨rfl, ?_⟩
        unfold putF
        rw [show size - 1 - i = size - (i + 1) by omega])
      rw [hM]
      clear hM
      obtain ⟨r, hr⟩ : ∃ r, M % 256 = r := ⟨_, rfl⟩
      obtain ⟨d, hd⟩ : ∃ d, M / 256 = d := ⟨_, rfl⟩
      have hrl : r < 256 := by omega
      have HRD := Hid.mk (And.intro hr hd)
      rw [hr, hd] at HM
      clear hr hd
      have hq := HR.out
      go_wp2_with (first | (refine wl_value rfl (exec_remU (i := M) (m := 256) rfl (by rfl) (by rfl) HRD.out.1 (by decide)) ?_) | (refine wl_value rfl (exec_cvU8 rfl (by rfl) hrl) ?_) | (refine wl_value rfl (exec_ixB (i := i) rfl (by rfl) (by rfl) (by omega)) ?_) | (refine wl_st8 rfl rfl hq (by rfl) (by rfl) (by omega) ?_; intro w2 q2 o2; refine Hid.out ?_))
      refine Hid.mk ?_
      have HX : Hid (RowAt w2 g .u8 5 size (fun j => if i ≤ j then putF N size j else 0)) := Hid.mk (q2.mono (Nat.le_refl _) (fun j _ => by
        unfold upd
        by_cases e : j = i
        · rw [if_pos (by omega), if_pos (by omega), e, HM.out.2]
        · rw [if_neg (by omega)]
          by_cases e2 : i ≤ j
          · show (if i + 1 ≤ j then putF N size j else 0) = if i ≤ j then putF N size j else 0
            rw [if_pos e2, if_pos (by omega)]
          · show (if i + 1 ≤ j then putF N size j else 0) = if i ≤ j then putF N size j else 0
            rw [if_neg e2, if_neg (by omega)]))
      have hB2 : Below w.heap.size w w2 := hB.trans (o2.below hg)
      clear q2 o2 hq HR hB
      go_wp2_with (refine wl_value rfl (exec_quoU (i := M) (m := 256) rfl (by rfl) (by rfl) HRD.out.2 (by decide) hMl) ?_)
      go_roundg i
      case rel => exact ⟨i, rfl, by omega, by go_num, by rw [HM.out.1], HX, hB2⟩
      case measure => omega
set_option maxHeartbeats 4000000 in
theorem rGet_run (T : ByteArray) (at0 size : Nat) (w : World) (hT : T.size < 9223372036854775808) (h1 : 1 ≤ size) (h8 : size ≤ 8) (ha : at0 + size ≤ T.size) : Calls Tryd.prog 39 #[.string T, .int .i64 (at0 : Int), .int .i64 (size : Int)] w fun e w' => e = .returned (.tuple #[.int .u64 (getN (txt T) at0 size : Int), .bool true]) ∧ Below w.heap.size w w' := by
  obtain ⟨N, hN⟩ : ∃ N, T.size = N := ⟨_, rfl⟩
  have HN := Hid.mk hN
  rw [hN] at ha hT
  have i1 : ¬ (size : Int) < 1 := by omega
  have i2 : ¬ (8 : Int) < (size : Int) := by omega
  have i3 : ¬ (at0 : Int) < 0 := by omega
  have i4 : ¬ (N : Int) < (at0 : Int) := by omega
  have i5 : ¬ (N : Int) - (at0 : Int) < (size : Int) := by omega
  have i6 : -9223372036854775808 ≤ (N : Int) - (at0 : Int) := by omega
  have i7 : (N : Int) - (at0 : Int) ≤ 9223372036854775807 := by omega
  go_enter Tryd.func39, Tryd.ntmps39
  go_wp2_with fail
  clear i1 i2 i3 i4 i5 i6 i7
  go_loopg [8, 9] size (fun gm s8 s9 z => ∃ i : Nat, gm = size - i ∧ i ≤ size ∧ s9 = .int .i64 (i : Int) ∧ s8 = .int .u64 (getN (txt T) at0 i : Int) ∧ z = w)
  case atStart => exact ⟨0, rfl, by omega, rfl, rfl, rfl⟩
  case round =>
    obtain ⟨i, hgm, hi, rfl, rfl, hz⟩ := hrel
    subst hz
    by_cases hlt : i < size
    · have hlti : (i : Int) < (size : Int) := by omega
      obtain ⟨c, hc⟩ : ∃ c : Nat, txt T (at0 + i) = (c : Int) := ⟨(txt T (at0 + i)).toNat, by have := txt_b T (at0 + i); omega⟩
      have hcl : c < 256 := by have := txt_b T (at0 + i); omega
      obtain ⟨m, hm⟩ : ∃ m, getN (txt T) at0 i = m := ⟨_, rfl⟩
      have hml : m < 72057594037927936 := by
        have h2 := getN_lt (fun j => txt_b T j) at0 i
        have h3 : 256 ^ i ≤ 256 ^ 7 := Nat.pow_le_pow_right (by decide) (by omega)
        have h4 : (256 : Nat) ^ 7 = 72057594037927936 := rfl
        omega
      have HG : Hid (getN (txt T) at0 (i + 1) = m * 256 + c) := Hid.mk (by
        show getN (txt T) at0 i * 256 + (txt T (at0 + i)).toNat = _
        rw [hm, hc, Int.toNat_natCast])
      have HC := Hid.mk hc
      rw [hm]
      clear hm hc
      obtain ⟨q, hq⟩ : ∃ q, at0 + i = q := ⟨_, rfl⟩
      obtain ⟨P, hP⟩ : ∃ P, m * 256 = P := ⟨_, rfl⟩
      obtain ⟨S, hS⟩ : ∃ S, P + c = S := ⟨_, rfl⟩
      have hPl : P < 18446744073709551616 := by omega
      have hSl : S < 18446744073709551616 := by omega
      have hql : q < 9223372036854775808 := by omega
      rw [hP, hS] at HG
      rw [hq] at HC
      have HXS : Hid (q < T.size) := Hid.mk (by rw [HN.out]; omega)
      have HQ := Hid.mk (And.intro hq (And.intro hP hS))
      clear hq hP hS
      go_wp2_with (first | (refine wl_value rfl (exec_mulU (i := m) (m := 256) rfl (by rfl) (by rfl) HQ.out.2.1 hPl) ?_) | (refine wl_value rfl (exec_addW (i := at0) (m := i) rfl (by rfl) (by rfl) HQ.out.1 hql) ?_) | (refine wl_value rfl (exec_ixs (j := q) rfl (by rfl) (by rfl) HXS.out) ?_; simp only [HC.out]) | (refine wl_value rfl (exec_cv8U (m := c) rfl (by rfl) hcl) ?_) | (refine wl_value rfl (exec_addU (i := P) (m := c) rfl (by rfl) (by rfl) HQ.out.2.2 hSl) ?_))
      go_roundg (size - (i + 1))
      case rel => exact ⟨i + 1, rfl, by omega, by go_num, by rw [HG.out], rfl⟩
      case measure => omega
    · obtain rfl : i = size := by omega
      have hlti : ¬ (i : Int) < (i : Int) := by omega
      go_wp2_with fail
      exact bodyPost_ret (results_two rfl (by rfl) (by rfl)) rfl ⟨rfl, Below.refl _ _⟩
end Go.Proofs.YtojekoakgpkkdaaDoor

/-
  Own text. The program's own Put and Get: the bytes of a number, and a number of bytes.
-/
namespace Go.Proofs.YtojekoakgpkkdaaDoor
open Go.RowKit Go.Proofs
set_option maxRecDepth 100000
theorem str_cells (b f0 cp : Nat) (w : World) (n : Nat) (f : Nat → Int) (hR : ∀ j, j < n → w.cell? ⟨b, f0 + j, none⟩ = some (.int .u8 (f j))) (hf : ∀ j, j < n → 0 ≤ f j ∧ f j < 256) : (convert 114 9 (.slice (some ⟨b, f0, none⟩) n cp)).run Tryd.prog w = .ok (.string (mkS n f)) w := by
  have h := run_convert_bytes_back (P := Tryd.prog) w 114 9 5 ⟨b, f0, none⟩ cp (bytesL n f) Tryd.underlying114 Tryd.underlying5 Tryd.underlying9 (fun j hj => by
    rw [bytesL_len] at hj
    rw [Addr.add_lit, hR j hj]
    have := hf j hj
    simp [bytesL]
    omega)
  rw [bytesL_len] at h
  exact h
theorem zero8 (w : World) : (zeroValue 113).run Tryd.prog w = .ok (.agg (SC 8 fun _ => Value.int .u8 0)) w := by kernel_rfl
theorem len8 : Tryd.prog.arrayLen 113 = 8 := by kernel_rfl
theorem sizeB8 (w : World) : (sizeOf (Tryd.prog.elem 113)).run Tryd.prog w = .ok 1 w := by kernel_rfl
section
variable {a : Act} {o : Oper} {w : World} {x y : Operand}
theorem exec_shrP (ho : o.op = .binOp .shr 72 x y 3) {n i q : Nat} (hx : a.eval x = .int .u64 (n : Int)) (hy : a.eval y = .int .i64 ((8 * i : Nat) : Int)) (hi : i < 8) (hq : n / 256 ^ i = q) : (execOp a.eval o).run Tryd.prog w = .ok (.value (.int .u64 (q : Int))) w := by
  subst hq
  refine exec_bin2 ho hx hy rfl ?_
  match i, hi with
  | 0, _ => simp [go_sem]
  | 1, _ => simp [go_sem]
  | 2, _ => simp [go_sem]
  | 3, _ => simp [go_sem]
  | 4, _ => simp [go_sem]
  | 5, _ => simp [go_sem]
  | 6, _ => simp [go_sem]
  | 7, _ => simp [go_sem]
theorem exec_cvU8m (ho : o.op = .convert 72 5 x) {m r : Nat} (hx : a.eval x = .int .u64 (m : Int)) (hr : m % 256 = r) : (execOp a.eval o).run Tryd.prog w = .ok (.value (.int .u8 (r : Int))) w := by
  subst hr
  have e : IntKind.u8.wrap (m : Int) = ((m % 256 : Nat) : Int) := by rw [IntKind.wrap_u8]; omega
  unfold execOp
  simp only [ho, hx]
  simp [go_sem, e]
theorem wl_st8A {ops : Array Oper} {rest : List Oper} {Q : Exit → Act → World → Prop} {g n i : Nat} {s : Nat → Int} {v : Int} {ty : TypeId} (ho : o.op = .store 5 x y) (hw : Region.wanted o (yielded ops a.tmps) = true) (hg : ArrAt w g .u8 ty n s) (hx : a.eval x = .pointer (some ⟨g, i, none⟩)) (hy : a.eval y = .int .u8 v) (hi : i < n)
    (h : ∀ w2, ArrAt w2 g .u8 ty n (upd s i v) → Only g w w2 → wpList Tryd.prog ops Q rest (a.put o.dst undef) w2) : wpList Tryd.prog ops Q (o :: rest) a w := by
  refine wl_act hw ?_
  have hc := hg.cell i hi
  have hf := hg.free i
  have hr : (Instr.storeAt 5 (.pointer (some ⟨g, i, none⟩)) (.int .u8 v)).run Tryd.prog w = .ok () (w.setCell ⟨g, i, none⟩ (.int .u8 v)) := by simp [go_sem, hc, hf]
  unfold Oper.wp execOp
  simp only [ho, hx, hy, Sem.run_bind, hr, Result.andThen_ok, Sem.run_pure, Oper.upon]
  exact h _ (hg.set i v hi) only_set
end
set_option maxHeartbeats 4000000 in
theorem Put_run (N size : Nat) (w : World) (h1 : 1 ≤ size) (h8 : size ≤ 8) : Calls Tryd.prog 33 #[.int .u64 (N : Int), .int .i64 (size : Int)] w fun e w' => e = .returned (.string (putT N size)) ∧ Below w.heap.size w w' := by
  have i1 : ¬ (size : Int) < 1 := by omega
  have i8 : ¬ (8 : Int) < (size : Int) := by omega
  go_enter Tryd.func33, Tryd.ntmps33
  go_wp2_with (refine wl_alO rfl rfl zero8 ?_; intro g w1 hg q1 hB1; refine Hid.out ?_)
  refine Hid.mk ?_
  have q1 : Hid (ArrAt w1 g .u8 113 8 (fun _ => 0)) := Hid.mk q1
  go_wp2_with fail
  go_loopg [13] 8 (fun gm s13 z => ∃ k : Nat, Hid (gm + k = 8) ∧ s13 = .int .i64 (k : Int) ∧ Hid (ArrAt z g .u8 113 8 (fun j => if j < k then putF N 8 j else 0)) ∧ Below w.heap.size w z)
  case atStart => exact ⟨0, Hid.mk rfl, rfl, Hid.mk (q1.out.congr (fun i hi => by rw [if_neg (by omega)])), hB1⟩
  case round =>
    obtain ⟨k, HK, rfl, HR, hB⟩ := hrel
    have hk8 : k ≤ 8 := by have := HK.out; omega
    by_cases hk : k < 8
    · have hki : (k : Int) < 8 := by omega
      obtain ⟨s, hs⟩ : ∃ s, 7 - k = s := ⟨_, rfl⟩
      obtain ⟨q, hq⟩ : ∃ q, N / 256 ^ s = q := ⟨_, rfl⟩
      obtain ⟨r, hr⟩ : ∃ r, q % 256 = r := ⟨_, rfl⟩
      have HQ := Hid.mk (And.intro hq hr)
      have HF : Hid (putF N 8 k = (r : Int)) := Hid.mk (by unfold putF; rw [← hr, ← hq, ← hs])
      have hs7 : s < 8 := by omega
      have es : (7 : Int) - (k : Int) = (s : Int) := by omega
      have HS := Hid.mk es
      have hrl : r < 256 := by omega
      clear hq hr es hs
      have hq := HR.out
      go_wp2_with (first | (refine wl_value rfl (exec_subW (i := 7) (m := k) (q := s) rfl (by rfl) (by rfl) (by have := HS.out; omega) (by omega)) ?_) | (refine wl_value rfl (exec_mulW (i := 8) (m := s) rfl (by rfl) (by rfl) rfl (by omega)) ?_) | (refine wl_value rfl (exec_shrP (n := N) (i := s) rfl (by rfl) (by rfl) hs7 HQ.out.1) ?_) | (refine wl_value rfl (exec_cvU8m (m := q) rfl (by rfl) HQ.out.2) ?_) | (refine wl_value rfl (exec_idxA (i := k) rfl Tryd.underlying113 len8 sizeB8 (by rfl) (by rfl) hk) ?_) | (refine wl_st8A rfl rfl hq (by rfl) (by rfl) hk ?_; intro w2 q2 o2; refine Hid.out ?_))
      refine Hid.mk ?_
      have HX : Hid (ArrAt w2 g .u8 113 8 (fun j => if j < k + 1 then putF N 8 j else 0)) := Hid.mk (q2.congr (fun j _ => by
        show upd (fun j => if j < k then putF N 8 j else 0) k r j = _
        unfold upd
        by_cases e : j = k
        · rw [if_pos e, if_pos (by omega), e, HF.out]
        · rw [if_neg e]
          show (if j < k then putF N 8 j else 0) = if j < k + 1 then putF N 8 j else 0
          by_cases e2 : j < k
          · rw [if_pos e2, if_pos (by omega)]
          · rw [if_neg e2, if_neg (by omega)]))
      have hB2 : Below w.heap.size w w2 := hB.trans (o2.below hg)
      clear q2 o2 hq HR hB
      go_wp2_with fail
      go_roundg (8 - (k + 1))
      case rel => exact ⟨k + 1, Hid.mk (by omega), by go_num, HX, hB2⟩
      case measure => have := HK.out; omega
    · have hk2 : k = 8 := by omega
      subst hk2
      obtain ⟨l, hl⟩ : ∃ l, 8 - size = l := ⟨_, rfl⟩
      have hl8 : l < 8 := by omega
      have hq := HR.out
      have hcv := str_cells g l (8 - l) wr size (putF N size) (fun j hj => by
        rw [hq.cell (l + j) (by omega), if_pos (by omega)]
        congr 1
        congr 1
        unfold putF
        rw [show 8 - 1 - (l + j) = size - 1 - j by omega]) (fun j _ => putF_b N size j)
      have hsl := slArrL Tryd.underlying113 len8 sizeB8 g l wr hl8
      have e8 : 8 - l = size := by omega
      rw [e8] at hsl hcv
      clear hq
      go_wp2_with (first | (refine wl_value rfl (exec_subW (i := 8) (m := size) (q := l) rfl (by rfl) (by rfl) (by omega) (by omega)) ?_) | (refine wl_value rfl (exec_slL rfl (by rfl) (by rfl) hsl) ?_) | (refine wl_value rfl (exec_conv rfl (by rfl) hcv) ?_))
      go_ret
      exact ⟨rfl, hB⟩
set_option maxHeartbeats 4000000 in
theorem Get_run (T : ByteArray) (at0 size : Nat) (w : World) (hT : T.size < 9223372036854775808) (h1 : 1 ≤ size) (h8 : size ≤ 8) (ha : at0 + size ≤ T.size) : Calls Tryd.prog 38 #[.string T, .int .i64 (at0 : Int), .int .i64 (size : Int)] w fun e w' => e = .returned (.tuple #[.int .u64 (getN (txt T) at0 size : Int), .bool true]) ∧ w' = w := by
  obtain ⟨N, hN⟩ : ∃ N, T.size = N := ⟨_, rfl⟩
  have HN := Hid.mk hN
  rw [hN] at ha hT
  have i1 : ¬ (size : Int) < 1 := by omega
  have i2 : ¬ (8 : Int) < (size : Int) := by omega
  have i3 : ¬ (at0 : Int) < 0 := by omega
  have i5 : ¬ (N : Int) - (size : Int) < (at0 : Int) := by omega
  have i6 : -9223372036854775808 ≤ (N : Int) - (size : Int) := by omega
  have i7 : (N : Int) - (size : Int) ≤ 9223372036854775807 := by omega
  go_enter Tryd.func38, Tryd.ntmps38
  go_wp2_with fail
  clear i1 i2 i3 i5 i6 i7
  go_loopg [8, 29] size (fun gm s8 s9 z => ∃ i : Nat, gm = size - i ∧ i ≤ size ∧ s9 = .int .i64 (i : Int) ∧ s8 = .int .u64 (getN (txt T) at0 i : Int) ∧ z = w)
  case atStart => exact ⟨0, rfl, by omega, rfl, rfl, rfl⟩
  case round =>
    obtain ⟨i, hgm, hi, rfl, rfl, hz⟩ := hrel
    have hz2 := hz.symm
    subst hz2
    clear hz
    by_cases hlt : i < size
    · have hlti : (i : Int) < (size : Int) := by omega
      obtain ⟨c, hc⟩ : ∃ c : Nat, txt T (at0 + i) = (c : Int) := ⟨(txt T (at0 + i)).toNat, by have := txt_b T (at0 + i); omega⟩
      have hcl : c < 256 := by have := txt_b T (at0 + i); omega
      obtain ⟨m, hm⟩ : ∃ m, getN (txt T) at0 i = m := ⟨_, rfl⟩
      have hml : m < 72057594037927936 := by
        have h2 := getN_lt (fun j => txt_b T j) at0 i
        have h3 : 256 ^ i ≤ 256 ^ 7 := Nat.pow_le_pow_right (by decide) (by omega)
        have h4 : (256 : Nat) ^ 7 = 72057594037927936 := rfl
        omega
      have HG : Hid (getN (txt T) at0 (i + 1) = m * 256 + c) := Hid.mk (by
        show getN (txt T) at0 i * 256 + (txt T (at0 + i)).toNat = _
        rw [hm, hc, Int.toNat_natCast])
      have HC := Hid.mk hc
      rw [hm]
      clear hm hc
      obtain ⟨q, hq⟩ : ∃ q, at0 + i = q := ⟨_, rfl⟩
      have hql : q < 9223372036854775808 := by omega
      rw [hq] at HC
      have HXS : Hid (q < T.size) := Hid.mk (by rw [HN.out]; omega)
      have HQ := Hid.mk hq
      clear hq
      go_wp2_with (first | (refine wl_value rfl (exec_shl8U (i := m) rfl (by rfl) (by rfl) rfl (by omega)) ?_) | (refine wl_value rfl (exec_addW (i := at0) (m := i) rfl (by rfl) (by rfl) HQ.out hql) ?_) | (refine wl_value rfl (exec_ixs rfl (by rfl) (by rfl) HXS.out) ?_; simp only [HC.out]) | (refine wl_value rfl (exec_cv8U (m := c) rfl (by rfl) hcl) ?_) | (refine wl_value rfl (exec_orU8 (i := m) (c := c) rfl (by rfl) (by rfl) hcl rfl (by omega)) ?_))
      go_roundg (size - (i + 1))
      case rel => exact ⟨i + 1, rfl, by omega, by go_num, by rw [HG.out]; rfl, rfl⟩
      case measure => omega
    · have hi2 : i = size := by omega
      subst hi2
      go_wp2_with fail
      exact bodyPost_ret (results_two rfl (by rfl) (by rfl)) rfl ⟨rfl, rfl⟩
end Go.Proofs.YtojekoakgpkkdaaDoor

/-
  Own text. The document's Valid, Bytes, None, Group, V4, From: addresses as bytes.
-/
namespace Go.Proofs.YtojekoakgpkkdaaDoor
open Go.RowKit Go.Proofs Go.Lib
set_option maxRecDepth 100000
/-- The bytes of an address. -/
def bytT (v : Bool) (b : Nat → Int) : ByteArray := if validF v b = true then mkS (if v = true then 16 else 4) b else ByteArray.empty
def noneF (b : Nat → Int) : Bool := (List.range 16).all fun i => decide (b i = 0)
def groupF (v : Bool) (b : Nat → Int) : Bool := validF v b && (if v = true then decide (b 0 = 255) else decide (224 ≤ b 0))
def v4B (p q r s : Int) (j : Nat) : Int := if j = 0 then p else if j = 1 then q else if j = 2 then r else if j = 3 then s else 0
theorem none_iff {b : Nat → Int} : noneF b = true ↔ ∀ i, i < 16 → b i = 0 := by
  unfold noneF
  rw [List.all_eq_true]
  exact ⟨fun h i hi => of_decide_eq_true (h i (List.mem_range.2 hi)), fun h i hi => decide_eq_true (h i (List.mem_range.1 hi))⟩
theorem bytT_size (v : Bool) (b : Nat → Int) : (bytT v b).size ≤ 16 := by
  unfold bytT
  split
  · rw [mkS_size]
    split <;> omega
  · simp
section
variable {a : Act} {o : Oper} {w : World} {x y : Operand}
theorem exec_fadW0 (ho : o.op = .fieldAddr 24 x 0) {g : Nat} (hx : a.eval x = .pointer (some ⟨g, 0, none⟩)) : (execOp a.eval o).run Tryd.prog w = .ok (.value (.pointer (some ⟨g, 0, none⟩))) w := by
  have h : (Instr.fieldAt 24 (.pointer (some ⟨g, 0, none⟩)) 0).run Tryd.prog w = .ok (.pointer (some ⟨g, 0, none⟩)) w := by simp [go_sem]
  unfold execOp
  simp only [ho, hx, Sem.run_bind, h, Result.andThen_ok, Sem.run_pure]
theorem exec_fadW1 (ho : o.op = .fieldAddr 24 x 1) {g f : Nat} (hx : a.eval x = .pointer (some ⟨g, f, none⟩)) : (execOp a.eval o).run Tryd.prog w = .ok (.value (.pointer (some ⟨g, f + 1, none⟩))) w := by
  have h : (Instr.fieldAt 24 (.pointer (some ⟨g, f, none⟩)) 1).run Tryd.prog w = .ok (.pointer (some ⟨g, f + 1, none⟩)) w := by simp [go_sem]
  unfold execOp
  simp only [ho, hx, Sem.run_bind, h, Result.andThen_ok, Sem.run_pure]
theorem exec_ixW16 (ho : o.op = .indexAddr 22 x y) {g k : Nat} (hx : a.eval x = .pointer (some ⟨g, 1, none⟩)) (hy : a.eval y = .int .i64 (k : Int)) (hk : k < 16) : (execOp a.eval o).run Tryd.prog w = .ok (.value (.pointer (some ⟨g, 1 + k, none⟩))) w := by
  have h2 : (k : Int) < 16 := by omega
  have h3 : (0 : Int) ≤ (k : Int) := by omega
  have h : (Instr.indexAt 22 (.pointer (some ⟨g, 1, none⟩)) (.int .i64 (k : Int))).run Tryd.prog w = .ok (.pointer (some ⟨g, 1 + k, none⟩)) w := by simp [go_sem, h2, h3]
  unfold execOp
  simp only [ho, hx, hy, Sem.run_bind, h, Result.andThen_ok, Sem.run_pure]
theorem ldW8 {p : Addr} {n : Int} (h : w.cell? p = some (.int .u8 n)) : (Instr.loadAt 5 (.pointer (some p))).run Tryd.prog w = .ok (.int .u8 n) w := by simp [go_sem, h]
theorem ad_setb {g k : Nat} {v : Bool} {b : Nat → Int} {c : Int} (h : SAt w g 24 17 (adV v b)) (hk : k < 16) : SAt (w.setCell ⟨g, 1 + k, none⟩ (.int .u8 c)) g 24 17 (adV v (upd b k c)) := by
  refine SAt.congr (SAt.set h (1 + k) _ (by omega)) (fun x hx => ?_)
  show (if x = 1 + k then Value.int .u8 c else adV v b x) = adV v (upd b k c) x
  unfold adV upd
  by_cases e : x = 1 + k
  · subst e
    rw [if_pos rfl, if_neg (by omega), Nat.add_sub_cancel_left, if_pos rfl]
  · rw [if_neg e]
    by_cases h1 : x < 1
    · rw [if_pos h1, if_pos h1]
    · rw [if_neg h1, if_neg h1, if_neg (by omega)]
theorem wl_stA {ops : Array Oper} {rest : List Oper} {Q : Exit → Act → World → Prop} {g k : Nat} {v : Bool} {b : Nat → Int} {c : Int} (ho : o.op = .store 5 x y) (hw : Region.wanted o (yielded ops a.tmps) = true) (hg : SAt w g 24 17 (adV v b)) (hx : a.eval x = .pointer (some ⟨g, 1 + k, none⟩)) (hy : a.eval y = .int .u8 c) (hk : k < 16)
    (h : ∀ w2, SAt w2 g 24 17 (adV v (upd b k c)) → Only g w w2 → wpList Tryd.prog ops Q rest (a.put o.dst undef) w2) : wpList Tryd.prog ops Q (o :: rest) a w := by
  refine wl_act hw ?_
  have hc := ad_b hg k hk
  have hf : w.frozen? ⟨g, 1 + k, none⟩ = false := frozen_of_row w g (1 + k) _ _ hg
  have hr : (Instr.storeAt 5 (.pointer (some ⟨g, 1 + k, none⟩)) (.int .u8 c)).run Tryd.prog w = .ok () (w.setCell ⟨g, 1 + k, none⟩ (.int .u8 c)) := by simp [go_sem, hc, hf]
  unfold Oper.wp execOp
  simp only [ho, hx, hy, Sem.run_bind, hr, Result.andThen_ok, Sem.run_pure, Oper.upon]
  exact h _ (ad_setb hg hk) only_set
theorem run_bsW1 (n : Int) (w : World) : (Instr.buildSlice 114 1 #[(0, .int .u8 n)]).run Tryd.prog w = .ok (.slice (some ⟨w.heap.size, 0, none⟩) 1 1) (w.alloc (.cells #[.int .u8 n] 5)) := by simp [go_sem]
theorem wl_bsW1 {ops : Array Oper} {rest : List Oper} {Q : Exit → Act → World → Prop} {c : Int} (ho : o.op = .buildSlice 114 1 #[(0, x)]) (hw : Region.wanted o (yielded ops a.tmps) = true) (hx : a.eval x = .int .u8 c)
    (h : ∀ g w', w.heap.size ≤ g → w'.cell? ⟨g, 0, none⟩ = some (.int .u8 c) → Below w.heap.size w w' → wpList Tryd.prog ops Q rest (a.put o.dst (.slice (some ⟨g, 0, none⟩) 1 1)) w') : wpList Tryd.prog ops Q (o :: rest) a w := by
  have hr := run_bsW1 c w
  refine wl_act hw ?_
  unfold Oper.wp execOp
  simp only [ho, List.map_toArray, List.map_cons, List.map_nil, hx, Sem.run_bind, hr, Result.andThen_ok, Sem.run_pure, Oper.upon]
  exact h _ _ (Nat.le_refl _) (by simp [go_sem]) ((Below.refl _ _).alloc (Nat.le_refl _) _)
/-- append of one byte. -/
theorem ap_byte {ops : Array Oper} {rest : List Oper} {Q : Exit → Act → World → Prop} {s z : Operand} (hgd : o.guard = none) (ho : o.op = .call { callee := .builtin .append, args := #[s, z], argTypes := #[114, 114] })
    {B n g : Nat} {f : Nat → Int} {v : Value} (hs : a.eval s = v) (hx : a.eval z = .slice (some ⟨g, 0, none⟩) 1 1) (hD : w.ownsRow B 5 1 v n (nums .u8 n f)) (hc : w.cell? ⟨g, 0, none⟩ = some (.int .u8 (f n))) (hl : n < 100000) (hB : B ≤ w.heap.size)
    (h : ∀ v' w', w'.ownsRow B 5 1 v' (n + 1) (nums .u8 (n + 1) f) → Below B w w' → wpList Tryd.prog ops Q rest (a.put o.dst v') w') : wpList Tryd.prog ops Q (o :: rest) a w :=
  ap_own hgd s z 114 5 .u8 1 Tryd.underlying114 infoByte (by omega) ho (r := fun _ => f n) (off := 0) (m := 1) (c := 1) hs hD hx (fun j hj => by
    obtain rfl : j = 0 := by omega
    exact hc) (by omega) hB (fun v' w' h1 h2 => h v' w' (by rw [nums_congr (cat_one n f)] at h1; exact h1) h2)
theorem zeroAddr (w : World) : (zeroValue 24).run Tryd.prog w = .ok (.agg (SC 17 (adV false (fun _ => 0)))) w := by kernel_rfl
theorem run_adW0 (w : World) : (Instr.build 24 #[]).run Tryd.prog w = .ok (.agg (SC 17 (adV false (fun _ => 0)))) w := by kernel_rfl
theorem exec_adW0 (ho : o.op = .build 24 #[]) : (execOp a.eval o).run Tryd.prog w = .ok (.value (.agg (SC 17 (adV false (fun _ => 0))))) w := by
  unfold execOp
  simp only [ho]
  simp [run_adW0]
theorem run_adW1 (v : Bool) (w : World) : (Instr.build 24 #[(0, .bool v)]).run Tryd.prog w = .ok (.agg (SC 17 (adV v (fun _ => 0)))) w := by kernel_rfl
theorem exec_adW1 (ho : o.op = .build 24 #[(0, x)]) {v : Bool} (hx : a.eval x = .bool v) : (execOp a.eval o).run Tryd.prog w = .ok (.value (.agg (SC 17 (adV v (fun _ => 0))))) w := by
  unfold execOp
  simp only [ho]
  simp [hx, run_adW1]
end
theorem res_ct {fn : Func} {p q : Tmp} {ty : TypeId} (h : fn.results = #[.cell p ty, .tmp q]) {tmps : Array Value} {w : World} {z : Value} {g n : Nat} {V : Nat → Value} (hA : IsSt ty n) (hg : SAt w g ty n V) (hp : tmps.getD p undef = .pointer (some ⟨g, 0, none⟩)) (hq : tmps.getD q undef = z) : (results fn tmps).run Tryd.prog w = .ok (.tuple #[.agg (SC n V), z]) w := by
  obtain ⟨d, h1, h2, h3⟩ := hA
  have hp' : tmps[p]?.getD undef = .pointer (some ⟨g, 0, none⟩) := by simpa using hp
  have hq' : tmps[q]?.getD undef = z := by simpa using hq
  have hl := run_loadVar_row (P := Tryd.prog) w g ty ty (SC n V) (0, 0) _ hg h1 (by cases d <;> first | rfl | exact h2) (by rw [SC_size]; exact h3)
  simp [results, h, hp', hq', asAddr, hl]
set_option maxHeartbeats 4000000 in
theorem rValid_run (v : Bool) (b : Nat → Int) (w : World) : Calls Tryd.prog 61 #[.agg (SC 17 (adV v b))] w fun e w' => e = .returned (.bool (validF v b)) ∧ Below w.heap.size w w' := by
  have HI := Hid.mk (valid_iff (v := v) (b := b))
  generalize validF v b = r at *
  go_enter Tryd.func61, Tryd.ntmps61
  go_wp2_with (refine wl_boxO rfl rfl isAddr (by rfl) ?_; intro g u1 hg g1 hB1; refine Hid.out ?_)
  refine Hid.mk ?_
  have c0 := ad_v g1
  have HB := Hid.mk (fun i hi => ad_b g1 i hi)
  clear g1
  go_wp2_with fail
  go_loopg [3] (12 : Nat) (fun gm s3 z => ∃ k : Nat, gm = 16 - k ∧ 4 ≤ k ∧ k ≤ 16 ∧ s3 = .int .i64 (k : Int) ∧ Hid (∀ i, 4 ≤ i → i < k → b i = 0) ∧ z = u1 ∧ (v = true → k = 4))
  case atStart => exact ⟨4, rfl, by omega, by omega, rfl, Hid.mk (fun i h1 h2 => by omega), rfl, fun _ => rfl⟩
  case round =>
    obtain ⟨k, hgm, hk4, hk, rfl, HZ, rfl, hv4⟩ := hrel
    by_cases hlt : k < 16
    · have hki : (k : Int) < 16 := by omega
      have hk0 : (0 : Int) ≤ (k : Int) := by omega
      rcases Bool.eq_false_or_eq_true v with hv | hv
      rotate_left
      · rw [hv] at c0
        have cb := HB.out k hlt
        by_cases hz : b k = 0
        · have HF : Hid (∀ i, 4 ≤ i → i < k + 1 → b i = 0) := Hid.mk (fun i h1 h2 => by
            by_cases e : i = k
            · subst e; exact hz
            · exact HZ.out i h1 (by omega))
          rw [hz] at cb
          go_wp2_with fail
          go_roundg (16 - (k + 1))
          case rel => exact ⟨k + 1, rfl, by omega, by omega, by go_num, HF, rfl, fun e => by rw [hv] at e; cases e⟩
          case measure => omega
        · have hr : r = false := by
            cases hr : r
            · rfl
            · rcases HI.out.1 hr with e | e
              · rw [hv] at e; cases e
              · exact absurd (e k hk4 hlt) hz
          have hzd : (b k == 0) = false := beq_eq_false_iff_ne.2 hz
          go_wp2_with fail
          go_ret
          exact ⟨by rw [hr]; rfl, hB1⟩
      · rw [hv] at c0
        have hr : r = true := HI.out.2 (.inl hv)
        go_wp2_with fail
        go_ret
        exact ⟨by rw [hr]; rfl, hB1⟩
    · obtain rfl : k = 16 := by omega
      have hr : r = true := HI.out.2 (.inr HZ.out)
      go_wp2_with fail
      go_ret
      exact ⟨by rw [hr]; rfl, hB1⟩
set_option maxHeartbeats 4000000 in
theorem rBytes_run (v : Bool) (b : Nat → Int) (w : World) (hb : Byts 16 b) : Calls Tryd.prog 89 #[.agg (SC 17 (adV v b))] w fun e w' => e = .returned (.string (bytT v b)) ∧ Below w.heap.size w w' := by
  have HR := Hid.mk (rValid_run v b)
  unfold bytT
  generalize validF v b = r at *
  obtain ⟨N, hN⟩ : ∃ N : Nat, (if v = true then 16 else 4) = N := ⟨_, rfl⟩
  rw [hN]
  have HN := Hid.mk hN
  have hN16 : N ≤ 16 := by rw [← hN]; split <;> omega
  clear hN
  obtain ⟨T, hT⟩ : ∃ T, (if r = true then mkS N b else ByteArray.empty) = T := ⟨_, rfl⟩
  rw [hT]
  have HT := Hid.mk hT
  clear hT
  go_enter Tryd.func89, Tryd.ntmps89
  go_wp2_with (refine wl_boxO rfl rfl isAddr (by rfl) ?_; intro g u1 hg g1 hB1; refine Hid.out ?_)
  refine Hid.mk ?_
  go_wp2_with (refine wl_value rfl (look_st rfl isAddr g1 (by rfl)) ?_)
  refine (HR.out u1).mono ?_
  rintro e u2 ⟨rfl, hB2⟩
  have g2 := SAt.kept g1 hB2
  have c0 := ad_v g2
  have hB : Below w.heap.size w u2 := hB1.trans (hB2.mono hB1.size)
  have hgl : g < u2.heap.size := g2.lt
  clear hB1 hB2 g1 HR
  cases r
  · go_wp2_with fail
    go_ret
    exact ⟨by rw [← HT.out]; rfl, hB⟩
  · go_upto_if 12 with fail
    go_cut [4] (fun s4 z => s4 = .int .i64 (N : Int) ∧ z = u2)
    case first =>
      cases v
      · go_wp2_with fail
        go_meet
        case rel => exact ⟨by rw [← HN.out]; rfl, rfl⟩
      · go_wp2_with fail
        go_meet
        case rel => exact ⟨by rw [← HN.out]; rfl, rfl⟩
    case rest =>
      obtain ⟨rfl, hz⟩ := hcut
      subst hz
      clear c0
      go_wp2_with fail
      go_loopg [5, 6] N (fun gm s5 s6 z => ∃ i : Nat, gm = N - i ∧ i ≤ N ∧ s6 = .int .i64 (i : Int) ∧ Hid (z.ownsRow wc.heap.size 5 1 s5 i (nums .u8 i b)) ∧ Below wc.heap.size wc z)
      case atStart => exact ⟨0, rfl, by omega, rfl, Hid.mk ⟨rfl, .inl ⟨rfl, rfl⟩⟩, Below.refl _ _⟩
      case round =>
        obtain ⟨i, hgm, hi, rfl, HO, hBz⟩ := hrel
        by_cases hlt : i < N
        · have hlti : (i : Int) < (N : Int) := by omega
          have q2 := g2.block (hBz.block g hgl)
          have cb := ad_b q2 i (by omega)
          go_wp2_with (first | (refine wl_value rfl (exec_fadW1 rfl (by rfl)) ?_) | (refine wl_value rfl (exec_ixW16 (k := i) rfl (by rfl) (by rfl) (by omega)) ?_) | (refine wl_bsW1 rfl rfl (by rfl) ?_; intro gS wS hgS cS hBS; refine Hid.out ?_))
          refine Hid.mk ?_
          have hO2 := own_kept HO.out hBS
          have hz2 : wc.heap.size ≤ wS.heap.size := Nat.le_trans hBz.size hBS.size
          go_wp2_with (at_builtin; refine ap_byte rfl rfl (by rfl) (by rfl) hO2 cS (by omega) hz2 ?_; intro v6 w6 hO6 hB6; refine Hid.out ?_)
          refine Hid.mk ?_
          have HX := Hid.mk hO6
          have hBX : Below wc.heap.size wc w6 := hBz.trans ((hBS.mono hBz.size).trans hB6)
          clear hO6 hO2 cS hBS HO hBz hB6 q2 cb
          go_wp2_with fail
          go_roundg (N - (i + 1))
          case rel => exact ⟨i + 1, rfl, by omega, by go_num, HX, hBX⟩
          case measure => omega
        · obtain rfl : i = N := by omega
          have hlti : ¬ (i : Int) < (i : Int) := by omega
          have h0 : 0 < i := by rw [← HN.out]; split <;> omega
          obtain ⟨q, cp, he, _, _, hr⟩ := own_row HO.out h0
          subst he
          have hcv := str_back i q cp wr i b hr (fun j hj => hb j (by omega)) rfl
          go_wp2_with (refine wl_value rfl (exec_conv rfl (by rfl) hcv) ?_)
          go_ret
          exact ⟨by rw [← HT.out]; rfl, hB.trans (hBz.mono hB.size)⟩
end Go.Proofs.YtojekoakgpkkdaaDoor

/-
  Own text. The document's V4 and From: the address of bytes.
-/
namespace Go.Proofs.YtojekoakgpkkdaaDoor
open Go.RowKit Go.Proofs Go.Lib
set_option maxRecDepth 100000
/-- The address of a text of 4 or 16 bytes. -/
def frB (T : ByteArray) (j : Nat) : Int := if j < T.size then txt T j else 0
theorem adV_ext {v : Bool} {b c : Nat → Int} (h : ∀ j, j < 16 → b j = c j) : SC 17 (adV v b) = SC 17 (adV v c) := by
  refine SC_ext (SC_size 17 _) (fun i hi => ?_)
  rw [SC_get 17 _ i hi]
  unfold adV
  by_cases e : i < 1
  · rw [if_pos e, if_pos e]
  · rw [if_neg e, if_neg e, h (i - 1) (by omega)]
set_option maxHeartbeats 4000000 in
theorem rFrom_run (T : ByteArray) (w : World) (h : T.size = 4 ∨ T.size = 16) : Calls Tryd.prog 56 #[.string T] w fun e w' => e = .returned (.tuple #[.agg (SC 17 (adV (decide (T.size = 16)) (frB T))), .int .i64 0]) ∧ Below w.heap.size w w' := by
  obtain ⟨N, hN⟩ : ∃ N, T.size = N := ⟨_, rfl⟩
  obtain ⟨d, hd⟩ : ∃ d, decide (T.size = 16) = d := ⟨_, rfl⟩
  rw [hd]
  have hdN : ((N : Int) == 16) = d := by
    rw [← hd, hN]
    by_cases e : N = 16
    · subst e; rfl
    · rw [decide_eq_false e]; exact beq_eq_false_iff_ne.2 (by omega)
  have HN := Hid.mk hN
  have HD := Hid.mk hdN
  rw [hN] at h
  clear hd hdN
  have hw : N = 4 ∨ N = 16 := h
  have hN16 : N ≤ 16 := by omega
  go_enter Tryd.func56, Tryd.ntmps56
  go_wp2_with (refine wl_alO rfl rfl zeroAddr ?_; intro g1 w1 hg1 q1 hB1; refine Hid.out ?_)
  refine Hid.mk ?_
  go_upto_region 1 with fail
  go_cut [13] (fun s13 z => s13 = .bool false ∧ z = w1)
  case first =>
    rcases h with e | e
    · subst e
      go_wp2_with fail
      go_meet
      case rel => exact ⟨rfl, rfl⟩
    · subst e
      go_wp2_with fail
      go_meet
      case rel => exact ⟨rfl, rfl⟩
  case rest =>
    obtain ⟨rfl, hz⟩ := hcut
    subst hz
    have hdN := HD.out
    go_wp2_with (first | (refine wl_value rfl (exec_adW1 rfl (by rfl)) ?_) | (refine wl_alO rfl rfl zeroAddr ?_; intro g2 w2 hg2 q2 hB2; refine Hid.out ?_))
    refine Hid.mk ?_
    go_wp2_with (refine st_stO rfl rfl isAddr (adV_one _ _) q2 (by rfl) (by rfl) ?_; intro w3 q3 o3; refine Hid.out ?_)
    refine Hid.mk ?_
    have h12 : g1 ≠ g2 := by have := SAt.lt q1; omega
    have hg2w : w.heap.size ≤ g2 := by have := hB1.size; omega
    have p3 := (SAt.kept q1 hB2).only o3 h12
    have hB3 : Below w.heap.size w w3 := (hB1.trans (hB2.mono hB1.size)).trans (o3.below hg2w)
    clear q1 q2 o3 hB1 hB2 hg2 hdN h hN
    go_wp2_with fail
    go_loopg [5] N (fun gm s5 z => ∃ i : Nat, gm = N - i ∧ i ≤ N ∧ s5 = .int .i64 (i : Int) ∧ Hid (SAt z g2 24 17 (adV d (fun j => if j < i then txt T j else 0)) ∧ SAt z g1 24 17 (adV false (fun _ => 0)) ∧ Below w.heap.size w z))
    case atStart => exact ⟨0, rfl, by omega, rfl, Hid.mk ⟨q3.congr (fun i _ => by unfold adV; split <;> simp), p3, hB3⟩⟩
    case round =>
      obtain ⟨i, hgm, hi, rfl, HS⟩ := hrel
      have hN := HN.out
      by_cases hlt : i < N
      · have hlti : (i : Int) < (N : Int) := by omega
        have q := HS.out.1
        go_wp2_with (first | (refine wl_value rfl (exec_ixs (j := i) rfl (by rfl) (by rfl) (by rw [HN.out]; exact hlt)) ?_) | (refine wl_value rfl (exec_fadW1 rfl (by rfl)) ?_) | (refine wl_value rfl (exec_ixW16 (k := i) rfl (by rfl) (by rfl) (by omega)) ?_) | (refine wl_stA (k := i) rfl rfl q (by rfl) (by rfl) (by omega) ?_; intro w4 q4 o4; refine Hid.out ?_))
        refine Hid.mk ?_
        have HX : Hid (SAt w4 g2 24 17 (adV d (fun j => if j < i + 1 then txt T j else 0)) ∧ SAt w4 g1 24 17 (adV false (fun _ => 0)) ∧ Below w.heap.size w w4) := Hid.mk ⟨q4.congr (fun x hx => by
          unfold adV
          by_cases e : x < 1
          · rw [if_pos e, if_pos e]
          · rw [if_neg e, if_neg e]
            unfold upd
            show Value.int .u8 (if x - 1 = i then txt T i else if x - 1 < i then txt T (x - 1) else 0) = Value.int .u8 (if x - 1 < i + 1 then txt T (x - 1) else 0)
            by_cases e2 : x - 1 = i
            · rw [if_pos e2, if_pos (by omega), e2]
            · rw [if_neg e2]
              by_cases e3 : x - 1 < i
              · rw [if_pos e3, if_pos (by omega)]
              · rw [if_neg e3, if_neg (by omega)]), HS.out.2.1.only o4 h12, HS.out.2.2.trans (o4.below hg2w)⟩
        clear q q4 o4 HS
        go_wp2_with fail
        go_roundg (N - (i + 1))
        case rel => exact ⟨i + 1, rfl, by omega, by go_num, HX⟩
        case measure => omega
      · obtain rfl : i = N := by omega
        have hlti : ¬ (i : Int) < (i : Int) := by omega
        have q := HS.out.1
        have p := HS.out.2.1
        have HE : Hid (SC 17 (adV d (fun j => if j < i then txt T j else 0)) = SC 17 (adV d (frB T))) := Hid.mk (adV_ext (fun j _ => by unfold frB; rw [hN]))
        go_wp2_with (first | (refine wl_value rfl (look_st rfl isAddr q (by rfl)) ?_) | (refine st_stO rfl rfl isAddr (adV_one _ _) p (by rfl) (by rfl) ?_; intro w7 q7 o7; refine Hid.out ?_))
        refine Hid.mk ?_
        go_wp2_with fail
        exact bodyPost_ret (res_ct rfl isAddr q7 (by rfl) (by rfl)) rfl ⟨by rw [HE.out]; rfl, HS.out.2.2.trans (o7.below hg1)⟩
end Go.Proofs.YtojekoakgpkkdaaDoor

/-
  Own text. What a drawn region that stores nothing of what was there keeps.
-/
namespace Go.Proofs.YtojekoakgpkkdaaDoor
open Go.RowKit Go.Proofs Go.Lib
set_option maxRecDepth 100000
theorem below_GcW {u7 u8 : World} (h : u7.heap.size ≤ u8.heap.size) (w w' : World) (hb : Below u7.heap.size u7 w) (ht : Touch (fun k => u8.heap.size ≤ k ∨ k ∈ (([] : List (Nat × Cont)).map (·.1))) w w') : Below u7.heap.size u7 w' :=
  hb.trans ⟨ht.os, ht.tape, ht.output, ht.size, fun k hk => ht.block k (by have := hb.size; omega) (fun e => by
    rcases e with e | e
    · omega
    · simp at e)⟩
end Go.Proofs.YtojekoakgpkkdaaDoor

/-
  Own text. The program's own addresses: V4, Valid, Bytes, From, Group, None.
-/
namespace Go.Proofs.YtojekoakgpkkdaaDoor
open Go.RowKit Go.Proofs
set_option maxRecDepth 100000
/-- Are two addresses the same? -/
def eqAF (v : Bool) (b : Nat → Int) (v' : Bool) (b' : Nat → Int) : Bool := (v == v') && (List.range 16).all fun i => b i == b' i
theorem eqAF_iff {v v' : Bool} {b b' : Nat → Int} : eqAF v b v' b' = true ↔ (v = v' ∧ ∀ i, i < 16 → b i = b' i) := by
  unfold eqAF
  rw [Bool.and_eq_true, beq_iff_eq, List.all_eq_true]
  constructor
  · rintro ⟨h, g⟩
    exact ⟨h, fun i hi => beq_iff_eq.1 (g i (List.mem_range.2 hi))⟩
  · rintro ⟨h, g⟩
    exact ⟨h, fun i hi => beq_iff_eq.2 (g i (List.mem_range.1 hi))⟩
theorem rowW_get (n : Nat) (b : Nat → Int) {i : Nat} (h : i < n) : (SC n fun j => Value.int .u8 (b j))[i]? = some (.int .u8 (b i)) := SC_get n _ i h
theorem eqItems_W (b b' : Nat → Int) (d : Nat) (w : World) : ∀ (is : List Nat), (∀ i ∈ is, i < 16) → (Op.eqItems (d + 1) 5 1 (SC 16 fun j => Value.int .u8 (b j)) (SC 16 fun j => Value.int .u8 (b' j)) is).run Tryd.prog w = .ok (is.all fun i => b i == b' i) w
  | [], _ => by simp [Op.eqItems]
  | i :: is, h => by
    have hi : i < 16 := h i (by simp)
    have ih := eqItems_W b b' d w is (fun j hj => h j (by simp [hj]))
    have e1 : (part 5 (SC 16 fun j => Value.int .u8 (b j)) (i * 1)).run Tryd.prog w = .ok (.int .u8 (b i)) w := by
      simp [part, rowW_get, hi, go_sem]
    have e2 : (part 5 (SC 16 fun j => Value.int .u8 (b' j)) (i * 1)).run Tryd.prog w = .ok (.int .u8 (b' i)) w := by
      simp [part, rowW_get, hi, go_sem]
    simp only [Op.eqItems, Sem.run_bind, e1, e2, Result.andThen_ok, run_equalIn_int w d 5 .u8 .u8 _ _ Tryd.underlying5, List.all_cons]
    cases hb : (b i == b' i)
    · simp
    · simpa using ih
theorem cellsW8 : Tryd.prog.cellsOf 5 = 1 := by kernel_rfl
theorem infoW8 : (Tryd.prog.info? 5).isSome = true := by kernel_rfl
theorem equal_b16 (b b' : Nat → Int) (d : Nat) (w : World) : (Op.equalIn (d + 1 + 1) 22 (.agg (SC 16 fun j => Value.int .u8 (b j))) (.agg (SC 16 fun j => Value.int .u8 (b' j)))).run Tryd.prog w = .ok ((List.range 16).all fun i => b i == b' i) w := by
  obtain ⟨i, hi⟩ := Option.isSome_iff_exists.1 infoW8
  rw [run_equalIn_array w (d + 1) _ _ Tryd.underlying22 hi, cellsW8]
  exact eqItems_W b b' d w _ (fun i hi => List.mem_range.1 hi)
theorem fieldsA : (Tryd.prog.fieldsOf 24).toList.map (fun f => (f.name, f.type, f.offset)) = [("V6", 4, 0), ("B", 22, 1)] := by kernel_rfl
theorem stoodA : Tryd.prog.stoodInHeld 24 = false := by kernel_rfl
theorem eqgA : Tryd.prog.eqGuardType Tryd.prog.depth 24 = false := by kernel_rfl
theorem partA0 (v : Bool) (b : Nat → Int) (w : World) : (part 4 (SC 17 (adV v b)) 0).run Tryd.prog w = .ok (.bool v) w := by kernel_rfl
theorem partA1 (v : Bool) (b : Nat → Int) (w : World) : (part 22 (SC 17 (adV v b)) 1).run Tryd.prog w = .ok (.agg (SC 16 fun j => Value.int .u8 (b j))) w := by kernel_rfl
theorem equal_addr (v : Bool) (b : Nat → Int) (v' : Bool) (b' : Nat → Int) (w : World) : (Op.equalIn 10000 24 (.agg (SC 17 (adV v b))) (.agg (SC 17 (adV v' b')))).run Tryd.prog w = .ok (eqAF v b v' b') w := by
  rw [run_equalIn_struct w 9999 24 _ _ Tryd.underlying24 stoodA]
  have hf := fieldsA
  generalize (Tryd.prog.fieldsOf 24).toList = fs at hf
  obtain ⟨f0, f1, rfl⟩ : ∃ f0 f1, fs = [f0, f1] := by
    have hl : fs.length = 2 := by have := congrArg List.length hf; simpa using this
    cases fs with
    | nil => simp at hl
    | cons f0 fs =>
      cases fs with
      | nil => simp at hl
      | cons f1 fs =>
        cases fs with
        | nil => exact ⟨f0, f1, rfl⟩
        | cons f2 fs => simp at hl
  · simp only [List.map_cons, List.map_nil, List.cons.injEq, Prod.mk.injEq, and_true] at hf
    obtain ⟨⟨n0, t0, o0⟩, n1, t1, o1⟩ := hf
    simp only [Op.eqFields, n0, t0, o0, n1, t1, o1, ne_eq, String.reduceEq, not_false_eq_true, if_true, Sem.run_bind, partA0, Result.andThen_ok, run_equalIn_bool w 9998 4 v v' Tryd.underlying4]
    unfold eqAF
    cases hv : (v == v')
    · simp
    · simp only [Bool.not_true, Bool.false_eq_true, if_false, Sem.run_bind, partA1, Result.andThen_ok, equal_b16 b b' 9997 w, Bool.true_and]
      cases (List.range 16).all fun i => b i == b' i <;> simp
section
variable {a : Act} {o : Oper} {w : World} {x y : Operand} {t : TypeId}
theorem exec_eqA (ho : o.op = .binOp .eql 24 x y t) {v : Bool} {b : Nat → Int} {v' : Bool} {b' : Nat → Int} (hx : a.eval x = .agg (SC 17 (adV v b))) (hy : a.eval y = .agg (SC 17 (adV v' b'))) : (execOp a.eval o).run Tryd.prog w = .ok (.value (.bool (eqAF v b v' b'))) w := by
  unfold execOp
  simp only [ho, hx, hy, Sem.run_bind, run_eqGuard_agg w .eql 24 x y _ _ eqgA, Result.andThen_ok, run_eql_struct, equal_addr v b v' b' w, Sem.run_pure]
theorem run_b16 (p q r s : Int) (w : World) : (Instr.build 22 #[(0, .int .u8 p), (1, .int .u8 q), (2, .int .u8 r), (3, .int .u8 s)]).run Tryd.prog w = .ok (.agg (SC 16 fun j => Value.int .u8 (v4B p q r s j))) w := by kernel_rfl
theorem exec_b16 {x1 x2 x3 x4 : Operand} (ho : o.op = .build 22 #[(0, x1), (1, x2), (2, x3), (3, x4)]) {p q r s : Int} (h1 : a.eval x1 = .int .u8 p) (h2 : a.eval x2 = .int .u8 q) (h3 : a.eval x3 = .int .u8 r) (h4 : a.eval x4 = .int .u8 s) : (execOp a.eval o).run Tryd.prog w = .ok (.value (.agg (SC 16 fun j => Value.int .u8 (v4B p q r s j)))) w := by
  have h := run_b16 p q r s w
  unfold execOp
  simp only [ho, List.map_toArray, List.map_cons, List.map_nil, h1, h2, h3, h4, Sem.run_bind, h, Result.andThen_ok, Sem.run_pure]
theorem run_adB (b : Nat → Int) (w : World) : (Instr.build 24 #[(1, .agg (SC 16 fun j => Value.int .u8 (b j)))]).run Tryd.prog w = .ok (.agg (SC 17 (adV false b))) w := by kernel_rfl
theorem exec_adB (ho : o.op = .build 24 #[(1, x)]) {b : Nat → Int} (hx : a.eval x = .agg (SC 16 fun j => Value.int .u8 (b j))) : (execOp a.eval o).run Tryd.prog w = .ok (.value (.agg (SC 17 (adV false b)))) w := by
  have h := run_adB b w
  unfold execOp
  simp only [ho, List.map_toArray, List.map_cons, List.map_nil, hx, Sem.run_bind, h, Result.andThen_ok, Sem.run_pure]
end
set_option maxHeartbeats 4000000 in
theorem V4_run (p q r s : Int) (w : World) : Calls Tryd.prog 63 #[.int .u8 p, .int .u8 q, .int .u8 r, .int .u8 s] w fun e w' => e = .returned (.agg (SC 17 (adV false (v4B p q r s)))) ∧ Below w.heap.size w w' := by
  go_enter Tryd.func63, Tryd.ntmps63
  go_wp2_with (first | (refine wl_alO rfl rfl zeroAddr ?_; intro g w1 hg q1 hB1; refine Hid.out ?_))
  refine Hid.mk ?_
  go_wp2_with (first | (refine wl_value rfl (exec_b16 rfl (by rfl) (by rfl) (by rfl) (by rfl)) ?_) | (refine wl_value rfl (exec_adB rfl (by rfl)) ?_) | (refine st_stO rfl rfl isAddr (adV_one _ _) q1 (by rfl) (by rfl) ?_; intro u3 q3 o3; refine Hid.out ?_))
  refine Hid.mk ?_
  go_wp2_with fail
  exact bodyPost_ret (res_st rfl isAddr q3 (by rfl)) rfl ⟨rfl, hB1.trans (o3.below hg)⟩
theorem ldWb {w : World} {p : Addr} {v : Bool} (h : w.cell? p = some (.bool v)) : (Instr.loadAt 4 (.pointer (some p))).run Tryd.prog w = .ok (.bool v) w := by simp [go_sem, h]
theorem enterW_V4 (args : Array Value) (w : World) : (callFunc 63 args).run Tryd.prog w = .ok (.enter 63 args) w := by kernel_rfl
theorem valid_v4 (b : Nat → Int) : validF false b = eqAF false b false (v4B (b 0) (b 1) (b 2) (b 3)) := by
  have h1 := valid_iff (v := false) (b := b)
  have h2 := eqAF_iff (v := false) (v' := false) (b := b) (b' := v4B (b 0) (b 1) (b 2) (b 3))
  have h3 : (∀ i, 4 ≤ i → i < 16 → b i = 0) ↔ (∀ i, i < 16 → b i = v4B (b 0) (b 1) (b 2) (b 3) i) := by
    constructor
    · intro h i hi
      unfold v4B
      split
      · rename_i e; rw [e]
      · split
        · rename_i e; rw [e]
        · split
          · rename_i e; rw [e]
          · split
            · rename_i e; rw [e]
            · exact h i (by omega) hi
    · intro h i h4 hi
      rw [h i hi]
      unfold v4B
      rw [if_neg (by omega), if_neg (by omega), if_neg (by omega), if_neg (by omega)]
  cases hv : validF false b <;> cases he : eqAF false b false (v4B (b 0) (b 1) (b 2) (b 3))
  · rfl
  · exfalso
    have := h1.2 (.inr (h3.2 (h2.1 he).2))
    rw [hv] at this
    cases this
  · exfalso
    rcases h1.1 hv with e | e
    · cases e
    · have := h2.2 ⟨rfl, h3.1 e⟩
      rw [he] at this
      cases this
  · rfl
set_option maxHeartbeats 4000000 in
theorem Valid_run (v : Bool) (b : Nat → Int) (w : World) : Calls Tryd.prog 47 #[.agg (SC 17 (adV v b))] w fun e w' => e = .returned (.bool (validF v b)) ∧ Below w.heap.size w w' := by
  go_enter Tryd.func47, Tryd.ntmps47
  go_wp2_with (refine wl_boxO rfl rfl isAddr (by rfl) ?_; intro g u1 hg g1 hB1; refine Hid.out ?_)
  refine Hid.mk ?_
  go_upto_region 1 with fail
  cases v
  · have hf := valid_v4 b
    refine wp_region3 (Below u1.heap.size u1) u1.heap.size
        ([] : List (Nat × Cont))
        [kv (.pointer (some ⟨g, 0, none⟩)), kv (.bool false), kv (.bool false), kv (.agg (SC 17 (adV false b))), kv (.pointer (some ⟨g, 1, none⟩)), kv (.pointer (some ⟨g, 1 + 0, none⟩)), kv (.int .u8 (b 0)), kv (.pointer (some ⟨g, 1, none⟩)), kv (.pointer (some ⟨g, 1 + 1, none⟩)), kv (.int .u8 (b 1)), kv (.pointer (some ⟨g, 1, none⟩)), kv (.pointer (some ⟨g, 1 + 2, none⟩)), kv (.int .u8 (b 2)), kv (.pointer (some ⟨g, 1, none⟩)), kv (.pointer (some ⟨g, 1 + 3, none⟩)), kv (.int .u8 (b 3)), kv (.agg (SC 17 (adV false (v4B (b 0) (b 1) (b 2) (b 3))))), kv (.bool (eqAF false b false (v4B (b 0) (b 1) (b 2) (b 3)))), kv (.bool (eqAF false b false (v4B (b 0) (b 1) (b 2) (b 3)))), kv (.bool (eqAF false b false (v4B (b 0) (b 1) (b 2) (b 3))))]
        [.none, .none, .none, .none, .none, .none, .none, .none, .none, .none, .none, .none, .none, .none, .none, .none, .none, .none, .none, .none]
        [some 3, some 4, some 5, some 6, some 7, some 8, some 9, some 10, some 11, some 12, some 13, some 14, some 15, some 16, some 17, some 18, some 19, some 20, some 21, some 2]
        [(1, .pointer (some ⟨g, 0, none⟩))]
        [[], [.slot 0], [.slot 1], [.slot 2], [.slot 2], [.slot 2, .slot 4], [.slot 2, .slot 5], [.slot 2], [.slot 2, .slot 7], [.slot 2, .slot 8], [.slot 2], [.slot 2, .slot 10], [.slot 2, .slot 11], [.slot 2], [.slot 2, .slot 13], [.slot 2, .slot 14], [.slot 2, .slot 6, .slot 9, .slot 12, .slot 15], [.slot 2, .slot 3, .slot 16], [.slot 2, .slot 17], [.slot 18]]
        [.slot 19] [3, 4, 5, 6, 7, 8, 9, 10, 11, 12, 13, 14, 15, 16, 17, 18, 19, 20, 21, 2]
        rfl (by kernel_rfl) ⟨rfl, trivial⟩ ((Below.refl _ u1).drew) (Nat.le_refl _) trivial trivial (below_GcW (Nat.le_refl _))
        ⟨
          (fun Q aq ww own hS hBg fr kn => .inl ⟨trivial, fun K hK => wp_value (exec_fadW0 rfl fr.1) (hK _ _ ⟨Touch.refl _ _, rfl⟩)⟩),
          (fun Q aq ww own hS hBg fr kn => .inl ⟨trivial, fun K hK => wp_value (exec_ld rfl kn.1 (ldWb (ad_v (SAt.kept g1 hS)))) (hK _ _ ⟨Touch.refl _ _, rfl⟩)⟩),
          (fun Q aq ww own hS hBg fr kn => .inl ⟨trivial, fun K hK => wp_value (exec_move rfl kn.1) (hK _ _ ⟨Touch.refl _ _, rfl⟩)⟩),
          (fun Q aq ww own hS hBg fr kn => .inl ⟨kn.1, fun K hK => wp_value (look_st rfl isAddr (SAt.kept g1 hS) fr.1) (hK _ _ ⟨Touch.refl _ _, rfl⟩)⟩),
          (fun Q aq ww own hS hBg fr kn => .inl ⟨kn.1, fun K hK => wp_value (exec_fadW1 rfl fr.1) (hK _ _ ⟨Touch.refl _ _, rfl⟩)⟩),
          (fun Q aq ww own hS hBg fr kn => .inl ⟨kn.1, fun K hK => wp_value (exec_ixW16 (k := 0) rfl kn.2.1 rfl (by decide)) (hK _ _ ⟨Touch.refl _ _, rfl⟩)⟩),
          (fun Q aq ww own hS hBg fr kn => .inl ⟨kn.1, fun K hK => wp_value (exec_ld rfl kn.2.1 (ldW8 (ad_b (SAt.kept g1 hS) 0 (by decide)))) (hK _ _ ⟨Touch.refl _ _, rfl⟩)⟩),
          (fun Q aq ww own hS hBg fr kn => .inl ⟨kn.1, fun K hK => wp_value (exec_fadW1 rfl fr.1) (hK _ _ ⟨Touch.refl _ _, rfl⟩)⟩),
          (fun Q aq ww own hS hBg fr kn => .inl ⟨kn.1, fun K hK => wp_value (exec_ixW16 (k := 1) rfl kn.2.1 rfl (by decide)) (hK _ _ ⟨Touch.refl _ _, rfl⟩)⟩),
          (fun Q aq ww own hS hBg fr kn => .inl ⟨kn.1, fun K hK => wp_value (exec_ld rfl kn.2.1 (ldW8 (ad_b (SAt.kept g1 hS) 1 (by decide)))) (hK _ _ ⟨Touch.refl _ _, rfl⟩)⟩),
          (fun Q aq ww own hS hBg fr kn => .inl ⟨kn.1, fun K hK => wp_value (exec_fadW1 rfl fr.1) (hK _ _ ⟨Touch.refl _ _, rfl⟩)⟩),
          (fun Q aq ww own hS hBg fr kn => .inl ⟨kn.1, fun K hK => wp_value (exec_ixW16 (k := 2) rfl kn.2.1 rfl (by decide)) (hK _ _ ⟨Touch.refl _ _, rfl⟩)⟩),
          (fun Q aq ww own hS hBg fr kn => .inl ⟨kn.1, fun K hK => wp_value (exec_ld rfl kn.2.1 (ldW8 (ad_b (SAt.kept g1 hS) 2 (by decide)))) (hK _ _ ⟨Touch.refl _ _, rfl⟩)⟩),
          (fun Q aq ww own hS hBg fr kn => .inl ⟨kn.1, fun K hK => wp_value (exec_fadW1 rfl fr.1) (hK _ _ ⟨Touch.refl _ _, rfl⟩)⟩),
          (fun Q aq ww own hS hBg fr kn => .inl ⟨kn.1, fun K hK => wp_value (exec_ixW16 (k := 3) rfl kn.2.1 rfl (by decide)) (hK _ _ ⟨Touch.refl _ _, rfl⟩)⟩),
          (fun Q aq ww own hS hBg fr kn => .inl ⟨kn.1, fun K hK => wp_value (exec_ld rfl kn.2.1 (ldW8 (ad_b (SAt.kept g1 hS) 3 (by decide)))) (hK _ _ ⟨Touch.refl _ _, rfl⟩)⟩),
          (fun Q aq ww own hS hBg fr kn => .inl ⟨kn.1, fun K hK => stepc enterW_V4 rfl (args4 kn.2.1 kn.2.2.1 kn.2.2.2.1 kn.2.2.2.2.1) (V4_run _ _ _ _ ww) (fun w' hb => hK _ _ ⟨touch_below hb, rfl⟩)⟩),
          (fun Q aq ww own hS hBg fr kn => .inl ⟨kn.1, fun K hK => wp_value (exec_eqA rfl kn.2.1 kn.2.2.1) (hK _ _ ⟨Touch.refl _ _, rfl⟩)⟩),
          (fun Q aq ww own hS hBg fr kn => .inl ⟨trivial, fun K hK => wp_value (exec_pickF (v := .bool (eqAF false b false (v4B (b 0) (b 1) (b 2) (b 3)))) rfl kn.1 kn.2.1) (hK _ _ ⟨Touch.refl _ _, rfl⟩)⟩),
          (fun Q aq ww own hS hBg fr kn => .inl ⟨trivial, fun K hK => wp_value (exec_assign rfl kn.1) (hK _ _ ⟨Touch.refl _ _, rfl⟩)⟩),
          trivial⟩ ?_
    intro vs own u6 hB6 hsz6 kn inj
    have e19 : vs 2 = .bool (eqAF false b false (v4B (b 0) (b 1) (b 2) (b 3))) := kn.1
    clear kn inj hsz6
    simp only [putAll, Act.put, List.setIfInBounds_toArray, List.set_cons_zero, List.set_cons_succ, e19]
    clear e19
    go_wp2_with fail
    go_ret
    exact ⟨by rw [hf]; rfl, hB1.trans (hB6.mono hB1.size)⟩
  · have hf : validF true b = true := valid_iff.2 (.inl rfl)
    refine wp_region3 (Below u1.heap.size u1) u1.heap.size
        ([] : List (Nat × Cont))
        [kv (.pointer (some ⟨g, 0, none⟩)), kv (.bool true), kv (.bool true), kv (undef), kv (undef), kv (undef), kv (undef), kv (undef), kv (undef), kv (undef), kv (undef), kv (undef), kv (undef), kv (undef), kv (undef), kv (undef), kv (undef), kv (undef), kv (.bool true), kv (.bool true)]
        [.none, .none, .none, .none, .none, .none, .none, .none, .none, .none, .none, .none, .none, .none, .none, .none, .none, .none, .none, .none]
        [some 3, some 4, some 5, some 6, some 7, some 8, some 9, some 10, some 11, some 12, some 13, some 14, some 15, some 16, some 17, some 18, some 19, some 20, some 21, some 2]
        [(1, .pointer (some ⟨g, 0, none⟩))]
        [[], [.slot 0], [.slot 1], [.slot 2], [.slot 2], [.slot 2], [.slot 2], [.slot 2], [.slot 2], [.slot 2], [.slot 2], [.slot 2], [.slot 2], [.slot 2], [.slot 2], [.slot 2], [.slot 2], [.slot 2], [.slot 2], [.slot 18]]
        [.slot 19] [3, 4, 5, 6, 7, 8, 9, 10, 11, 12, 13, 14, 15, 16, 17, 18, 19, 20, 21, 2]
        rfl (by kernel_rfl) ⟨rfl, trivial⟩ ((Below.refl _ u1).drew) (Nat.le_refl _) trivial trivial (below_GcW (Nat.le_refl _))
        ⟨
          (fun Q aq ww own hS hBg fr kn => .inl ⟨trivial, fun K hK => wp_value (exec_fadW0 rfl fr.1) (hK _ _ ⟨Touch.refl _ _, rfl⟩)⟩),
          (fun Q aq ww own hS hBg fr kn => .inl ⟨trivial, fun K hK => wp_value (exec_ld rfl kn.1 (ldWb (ad_v (SAt.kept g1 hS)))) (hK _ _ ⟨Touch.refl _ _, rfl⟩)⟩),
          (fun Q aq ww own hS hBg fr kn => .inl ⟨trivial, fun K hK => wp_value (exec_move rfl kn.1) (hK _ _ ⟨Touch.refl _ _, rfl⟩)⟩),
          (fun Q aq ww own hS hBg fr kn => .inr ⟨.inl kn.1, ⟨Touch.refl _ _, rfl⟩⟩),
          (fun Q aq ww own hS hBg fr kn => .inr ⟨.inl kn.1, ⟨Touch.refl _ _, rfl⟩⟩),
          (fun Q aq ww own hS hBg fr kn => .inr ⟨.inl kn.1, ⟨Touch.refl _ _, rfl⟩⟩),
          (fun Q aq ww own hS hBg fr kn => .inr ⟨.inl kn.1, ⟨Touch.refl _ _, rfl⟩⟩),
          (fun Q aq ww own hS hBg fr kn => .inr ⟨.inl kn.1, ⟨Touch.refl _ _, rfl⟩⟩),
          (fun Q aq ww own hS hBg fr kn => .inr ⟨.inl kn.1, ⟨Touch.refl _ _, rfl⟩⟩),
          (fun Q aq ww own hS hBg fr kn => .inr ⟨.inl kn.1, ⟨Touch.refl _ _, rfl⟩⟩),
          (fun Q aq ww own hS hBg fr kn => .inr ⟨.inl kn.1, ⟨Touch.refl _ _, rfl⟩⟩),
          (fun Q aq ww own hS hBg fr kn => .inr ⟨.inl kn.1, ⟨Touch.refl _ _, rfl⟩⟩),
          (fun Q aq ww own hS hBg fr kn => .inr ⟨.inl kn.1, ⟨Touch.refl _ _, rfl⟩⟩),
          (fun Q aq ww own hS hBg fr kn => .inr ⟨.inl kn.1, ⟨Touch.refl _ _, rfl⟩⟩),
          (fun Q aq ww own hS hBg fr kn => .inr ⟨.inl kn.1, ⟨Touch.refl _ _, rfl⟩⟩),
          (fun Q aq ww own hS hBg fr kn => .inr ⟨.inl kn.1, ⟨Touch.refl _ _, rfl⟩⟩),
          (fun Q aq ww own hS hBg fr kn => .inr ⟨.inl kn.1, ⟨Touch.refl _ _, rfl⟩⟩),
          (fun Q aq ww own hS hBg fr kn => .inr ⟨.inl kn.1, ⟨Touch.refl _ _, rfl⟩⟩),
          (fun Q aq ww own hS hBg fr kn => .inl ⟨trivial, fun K hK => wp_value (exec_pick (v := .bool true) rfl kn.1 rfl) (hK _ _ ⟨Touch.refl _ _, rfl⟩)⟩),
          (fun Q aq ww own hS hBg fr kn => .inl ⟨trivial, fun K hK => wp_value (exec_assign rfl kn.1) (hK _ _ ⟨Touch.refl _ _, rfl⟩)⟩),
          trivial⟩ ?_
    intro vs own u6 hB6 hsz6 kn inj
    have e19 : vs 2 = .bool true := kn.1
    clear kn inj hsz6
    simp only [putAll, Act.put, List.setIfInBounds_toArray, List.set_cons_zero, List.set_cons_succ, e19]
    clear e19
    go_wp2_with fail
    go_ret
    exact ⟨by rw [hf]; rfl, hB1.trans (hB6.mono hB1.size)⟩
set_option maxHeartbeats 4000000 in
theorem None_run (v : Bool) (b : Nat → Int) (w : World) : Calls Tryd.prog 69 #[.agg (SC 17 (adV v b))] w fun e w' => e = .returned (.bool (noneF b)) ∧ Below w.heap.size w w' := by
  have hf : noneF b = eqAF v b v (fun _ => 0) := by
    have h1 := none_iff (b := b)
    have h2 := eqAF_iff (v := v) (v' := v) (b := b) (b' := fun _ => 0)
    cases hn : noneF b <;> cases he : eqAF v b v (fun _ => 0)
    · rfl
    · have := h1.2 (h2.1 he).2
      rw [hn] at this
      cases this
    · have := h2.2 ⟨rfl, h1.1 hn⟩
      rw [he] at this
      cases this
    · rfl
  have HF := Hid.mk hf
  clear hf
  go_enter Tryd.func69, Tryd.ntmps69
  go_wp2_with (refine wl_boxO rfl rfl isAddr (by rfl) ?_; intro g u1 hg g1 hB1; refine Hid.out ?_)
  refine Hid.mk ?_
  have c0 := ad_v g1
  go_wp2_with (first | (refine wl_value rfl (look_st rfl isAddr g1 (by rfl)) ?_) | (refine wl_value rfl (exec_fadW0 rfl (by rfl)) ?_) | (refine wl_value rfl (exec_adW1 rfl (by rfl)) ?_) | (refine wl_value rfl (exec_eqA rfl (by rfl) (by rfl)) ?_))
  go_ret
  exact ⟨by rw [HF.out]; rfl, hB1⟩
theorem groupV {b : Nat → Int} : groupF true b = (b 0 == 255) := by
  unfold groupF
  rw [valid_iff.2 (.inl rfl), if_pos rfl, Bool.true_and]
  by_cases e : b 0 = 255
  · rw [decide_eq_true e, e]; rfl
  · rw [decide_eq_false e, beq_eq_false_iff_ne.2 e]
set_option maxHeartbeats 4000000 in
theorem Group_run (v : Bool) (b : Nat → Int) (w : World) : Calls Tryd.prog 70 #[.agg (SC 17 (adV v b))] w fun e w' => e = .returned (.bool (groupF v b)) ∧ Below w.heap.size w w' := by
  go_enter Tryd.func70, Tryd.ntmps70
  go_wp2_with (refine wl_boxO rfl rfl isAddr (by rfl) ?_; intro g u1 hg g1 hB1; refine Hid.out ?_)
  refine Hid.mk ?_
  have c0 := ad_v g1
  have HB := Hid.mk (ad_b g1 0 (by decide))
  cases v
  · obtain ⟨r, hr⟩ : ∃ r, validF false b = r := ⟨_, rfl⟩
    have HR := Hid.mk hr
    have HG : Hid (groupF false b = (r && decide (224 ≤ b 0))) := Hid.mk (by unfold groupF; rw [hr, if_neg (by decide)])
    clear hr
    go_wp2_with (first | (refine wl_value rfl (exec_fadW0 rfl (by rfl)) ?_) | (refine wl_value rfl (look_st rfl isAddr g1 (by rfl)) ?_) | (go_at_call 47; refine (Valid_run false b _).mono ?_; rintro e w2 ⟨rfl, hB2⟩; simp only [HR.out]; refine Hid.out ?_))
    refine Hid.mk ?_
    have hB3 := hB1.trans (hB2.mono hB1.size)
    have c1 : w2.cell? ⟨g, 1 + 0, none⟩ = some (.int .u8 (b 0)) := (hB2.cell (SAt.lt g1)).trans HB.out
    cases r
    · go_wp2_with fail
      go_ret
      exact ⟨by rw [HG.out]; rfl, hB3⟩
    · by_cases h : 224 ≤ b 0
      · go_wp2_with (first | (refine wl_value rfl (exec_fadW1 rfl (by rfl)) ?_) | (refine wl_value rfl (exec_ixW16 (k := 0) rfl (by rfl) (by rfl) (by decide)) ?_) | (refine wl_value rfl (exec_ld rfl (by rfl) (ldW8 c1)) ?_))
        go_ret
        exact ⟨by rw [HG.out, decide_eq_true (by omega)]; rfl, hB3⟩
      · go_wp2_with (first | (refine wl_value rfl (exec_fadW1 rfl (by rfl)) ?_) | (refine wl_value rfl (exec_ixW16 (k := 0) rfl (by rfl) (by rfl) (by decide)) ?_) | (refine wl_value rfl (exec_ld rfl (by rfl) (ldW8 c1)) ?_))
        go_ret
        exact ⟨by rw [HG.out, decide_eq_false (by omega)]; rfl, hB3⟩
  · have HG := Hid.mk (groupV (b := b))
    have c1 := HB.out
    go_wp2_with (first | (refine wl_value rfl (exec_fadW0 rfl (by rfl)) ?_) | (refine wl_value rfl (exec_fadW1 rfl (by rfl)) ?_) | (refine wl_value rfl (exec_ixW16 (k := 0) rfl (by rfl) (by rfl) (by decide)) ?_) | (refine wl_value rfl (exec_ld rfl (by rfl) (ldW8 c1)) ?_))
    go_ret
    exact ⟨by rw [HG.out]; rfl, hB1⟩
theorem sl16 (g : Nat) (w : World) : (Instr.sliceAt 22 (.pointer (some ⟨g, 1, none⟩)) none none none).run Tryd.prog w = .ok (.slice (some ⟨g, 1, none⟩) 16 16) w := by simp [go_sem]
theorem sl16h (g : Nat) (w : World) : (Instr.sliceAt 22 (.pointer (some ⟨g, 1, none⟩)) none (some (.int .i64 4)) none).run Tryd.prog w = .ok (.slice (some ⟨g, 1, none⟩) 4 16) w := by simp [go_sem]
set_option maxHeartbeats 4000000 in
theorem Bytes_run (v : Bool) (b : Nat → Int) (w : World) (hb : Byts 16 b) : Calls Tryd.prog 101 #[.agg (SC 17 (adV v b))] w fun e w' => e = .returned (.string (bytT v b)) ∧ Below w.heap.size w w' := by
  obtain ⟨r, hr⟩ : ∃ r, validF v b = r := ⟨_, rfl⟩
  have HR := Hid.mk hr
  have HT : Hid (bytT v b = if r = true then mkS (if v = true then 16 else 4) b else ByteArray.empty) := Hid.mk (by unfold bytT; rw [hr])
  clear hr
  go_enter Tryd.func101, Tryd.ntmps101
  go_wp2_with (refine wl_boxO rfl rfl isAddr (by rfl) ?_; intro g u1 hg g1 hB1; refine Hid.out ?_)
  refine Hid.mk ?_
  go_wp2_with (first | (refine wl_value rfl (look_st rfl isAddr g1 (by rfl)) ?_) | (go_at_call 47; refine (Valid_run v b _).mono ?_; rintro e w2 ⟨rfl, hB2⟩; simp only [HR.out]; refine Hid.out ?_))
  refine Hid.mk ?_
  have hB3 := hB1.trans (hB2.mono hB1.size)
  have g2 := SAt.kept g1 hB2
  have c0 := ad_v g2
  cases r
  · go_wp2_with fail
    go_ret
    exact ⟨by rw [HT.out]; rfl, hB3⟩
  · cases v
    · have hcv := str_cells g 1 16 w2 4 b (fun j hj => ad_b g2 j (by omega)) (fun j hj => hb j (by omega))
      go_wp2_with (first | (refine wl_value rfl (exec_fadW0 rfl (by rfl)) ?_) | (refine wl_value rfl (exec_fadW1 rfl (by rfl)) ?_) | (refine wl_value rfl (exec_slH rfl (by rfl) (by rfl) (sl16h g _)) ?_) | (refine wl_value rfl (exec_conv rfl (by rfl) hcv) ?_))
      go_ret
      exact ⟨by rw [HT.out]; rfl, hB3⟩
    · have hcv := str_cells g 1 16 w2 16 b (fun j hj => ad_b g2 j hj) (fun j hj => hb j hj)
      go_wp2_with (first | (refine wl_value rfl (exec_fadW0 rfl (by rfl)) ?_) | (refine wl_value rfl (exec_fadW1 rfl (by rfl)) ?_) | (refine wl_value rfl (exec_sl rfl (by rfl) (sl16 g _)) ?_) | (refine wl_value rfl (exec_conv rfl (by rfl) hcv) ?_))
      go_ret
      exact ⟨by rw [HT.out]; rfl, hB3⟩
theorem wl_cpA {ops : Array Oper} {rest : List Oper} {Q : Exit → Act → World → Prop} {o : Oper} {a : Act} {w : World} {d s' : Operand} {g : Nat} {v : Bool} {b : Nat → Int} {T : ByteArray} (ho : o.op = .call { callee := .builtin .copy, args := #[d, s'], argTypes := #[114, 9] }) (hw : Region.wanted o (yielded ops a.tmps) = true) (hd : a.eval d = .slice (some ⟨g, 1, none⟩) 16 16) (hs : a.eval s' = .string T) (hT : T.size ≤ 16) (hg : SAt w g 24 17 (adV v b))
    (h : ∀ w2, SAt w2 g 24 17 (adV v (fun j => if j < T.size then txt T j else b j)) → Only g w w2 → wpList Tryd.prog ops Q rest (a.put o.dst (goInt T.size)) w2) : wpList Tryd.prog ops Q (o :: rest) a w := by
  refine wl_act hw ?_
  have hz : ∀ w, (Go.sizeOf 5).run Tryd.prog w = .ok 1 w := fun w => by kernel_rfl
  have h0 := run_copy_string (P := Tryd.prog) w 114 9 o.type 5 g 1 16 16 T Tryd.underlying114 hz hT (fun j hj => by rw [ad_b hg j (by omega)]; rfl) (fun j _ => frozen_of_row w g _ _ _ hg)
  rw [cells_txt] at h0
  have e : nums .u8 T.size (txt T) = (SC T.size fun j => Value.int .u8 (txt T j)).toList := rfl
  rw [e] at h0
  obtain ⟨k1, k2⟩ := hg.mid (fun j => Value.int .u8 (txt T j)) 1 T.size (by omega)
  unfold Oper.wp
  simp only [execOp, ho, resolve, invoke, builtin, List.map_toArray, List.map_cons, List.map_nil, hd, hs, Sem.run_bind, Sem.run_pure, Result.andThen_ok, h0, Oper.upon]
  refine h _ (k1.congr (fun x hx => ?_)) k2
  unfold adV
  by_cases e1 : x < 1
  · rw [if_neg (by omega), if_pos e1, if_pos e1]
  · rw [if_neg e1, if_neg e1]
    by_cases e2 : x - 1 < T.size
    · rw [if_pos (by omega)]
      show _ = Value.int .u8 (if x - 1 < T.size then txt T (x - 1) else b (x - 1))
      rw [if_pos e2]
    · rw [if_neg (by omega)]
      show _ = Value.int .u8 (if x - 1 < T.size then txt T (x - 1) else b (x - 1))
      rw [if_neg e2]
set_option maxHeartbeats 4000000 in
theorem From_run (T : ByteArray) (w : World) (h : T.size = 4 ∨ T.size = 16) : Calls Tryd.prog 79 #[.string T] w fun e w' => e = .returned (.tuple #[.agg (SC 17 (adV (decide (T.size = 16)) (frB T))), .int .i64 0]) ∧ Below w.heap.size w w' := by
  obtain ⟨N, hN⟩ : ∃ N, T.size = N := ⟨_, rfl⟩
  obtain ⟨d, hd⟩ : ∃ d, decide (T.size = 16) = d := ⟨_, rfl⟩
  rw [hd]
  have hdN : ((N : Int) == 16) = d := by
    rw [← hd, hN]
    by_cases e : N = 16
    · subst e; rfl
    · rw [decide_eq_false e]; exact beq_eq_false_iff_ne.2 (by omega)
  have HN := Hid.mk hN
  have HD := Hid.mk hdN
  rw [hN] at h
  clear hd hdN
  have hN16 : N ≤ 16 := by omega
  go_enter Tryd.func79, Tryd.ntmps79
  go_wp2_with (refine wl_alO rfl rfl zeroAddr ?_; intro g1 w1 hg1 q1 hB1; refine Hid.out ?_)
  refine Hid.mk ?_
  go_upto_region 1 with fail
  go_cut [12] (fun s12 z => s12 = .bool false ∧ z = w1)
  case first =>
    rcases h with e | e
    · subst e
      go_wp2_with fail
      go_meet
      case rel => exact ⟨rfl, rfl⟩
    · subst e
      go_wp2_with fail
      go_meet
      case rel => exact ⟨rfl, rfl⟩
  case rest =>
    obtain ⟨rfl, hz⟩ := hcut
    have hz2 := hz.symm
    subst hz2
    clear hz
    have hdN := HD.out
    go_wp2_with (first | (refine wl_value rfl (exec_adW1 rfl (by rfl)) ?_) | (refine wl_alO rfl rfl zeroAddr ?_; intro g2 w2 hg2 q2 hB2; refine Hid.out ?_))
    refine Hid.mk ?_
    go_wp2_with (refine st_stO rfl rfl isAddr (adV_one _ _) q2 (by rfl) (by rfl) ?_; intro w3 q3 o3; refine Hid.out ?_)
    refine Hid.mk ?_
    have h12 : g1 ≠ g2 := by have := SAt.lt q1; omega
    have hg2w : w.heap.size ≤ g2 := by have := hB1.size; omega
    have p3 := (SAt.kept q1 hB2).only o3 h12
    have hB3 : Below w.heap.size w w3 := (hB1.trans (hB2.mono hB1.size)).trans (o3.below hg2w)
    clear q1 q2 o3 hB1 hB2 hg2 hdN h hN
    go_wp2_with (first | (refine wl_value rfl (exec_fadW1 rfl (by rfl)) ?_) | (refine wl_value rfl (exec_sl rfl (by rfl) (sl16 g2 _)) ?_) | (refine wl_cpA rfl rfl (by rfl) (by rfl) (by rw [HN.out]; exact hN16) q3 ?_; intro w4 q4 o4; refine Hid.out ?_))
    refine Hid.mk ?_
    have p4 := SAt.only p3 o4 h12
    have hB4 := hB3.trans (o4.below hg2w)
    have q5 : SAt w4 g2 24 17 (adV d (frB T)) := q4
    go_wp2_with (first | (refine wl_value rfl (look_st rfl isAddr q5 (by rfl)) ?_) | (refine st_stO rfl rfl isAddr (adV_one _ _) p4 (by rfl) (by rfl) ?_; intro w7 q7 o7; refine Hid.out ?_))
    refine Hid.mk ?_
    go_wp2_with fail
    exact bodyPost_ret (res_ct rfl isAddr q7 (by rfl) (by rfl)) rfl ⟨rfl, hB4.trans (o7.below hg1)⟩
end Go.Proofs.YtojekoakgpkkdaaDoor

/-
  Own text. The document's Pseudo.
-/
namespace Go.Proofs.YtojekoakgpkkdaaDoor
open Go.RowKit Go.Proofs Go.Lib
set_option maxRecDepth 100000
/-- A pseudo header. -/
def pseT (v1 : Bool) (b1 : Nat → Int) (v2 : Bool) (b2 : Nat → Int) (pr sz : Nat) : ByteArray := if v1 = true then bytT v1 b1 ++ bytT v2 b2 ++ putT sz 4 ++ putT pr 4 else bytT v1 b1 ++ bytT v2 b2 ++ putT pr 2 ++ putT sz 2
def pseOk (v1 : Bool) (b1 : Nat → Int) (v2 : Bool) (b2 : Nat → Int) (pr sz : Int) : Prop := validF v1 b1 = true ∧ validF v2 b2 = true ∧ v1 = v2 ∧ 0 ≤ pr ∧ pr ≤ 255 ∧ 0 ≤ sz ∧ sz ≤ 65535
theorem exec_cvIU {a : Act} {o : Oper} {w : World} {x : Operand} (ho : o.op = .convert 3 72 x) {m : Nat} (hx : a.eval x = .int .i64 (m : Int)) (h1 : m < 1000000000) : (execOp a.eval o).run Tryd.prog w = .ok (.value (.int .u64 (m : Int))) w := by
  have e : IntKind.u64.wrap (m : Int) = (m : Int) := by rw [IntKind.wrap_u64]; omega
  unfold execOp
  simp only [ho, hx]
  simp [go_sem, e]
theorem enterW_By (args : Array Value) (w : World) : (callFunc 89 args).run Tryd.prog w = .ok (.enter 89 args) w := by kernel_rfl
theorem enterW_Pu (args : Array Value) (w : World) : (callFunc 36 args).run Tryd.prog w = .ok (.enter 36 args) w := by kernel_rfl
set_option maxHeartbeats 8000000 in
theorem rPseudo_run (v1 : Bool) (b1 : Nat → Int) (v2 : Bool) (b2 : Nat → Int) (pr sz : Nat) (w : World) (hb1 : Byts 16 b1) (hb2 : Byts 16 b2) (h : pseOk v1 b1 v2 b2 pr sz) : Calls Tryd.prog 67 #[.agg (SC 17 (adV v1 b1)), .agg (SC 17 (adV v2 b2)), .int .i64 (pr : Int), .int .i64 (sz : Int)] w fun e w' => e = .returned (.string (pseT v1 b1 v2 b2 pr sz)) ∧ Below w.heap.size w w' := by
  obtain ⟨hr1, hr2, hvv, _, hp1, _, hs1⟩ := h
  subst hvv
  obtain ⟨T, hT⟩ : ∃ T, pseT v1 b1 v1 b2 pr sz = T := ⟨_, rfl⟩
  rw [hT]
  have HT := Hid.mk hT.symm
  obtain ⟨t1, ht1⟩ : ∃ t, bytT v1 b1 = t := ⟨_, rfl⟩
  obtain ⟨t2, ht2⟩ : ∃ t, bytT v1 b2 = t := ⟨_, rfl⟩
  have HTT := Hid.mk (And.intro ht1 ht2)
  have hz1 : t1.size ≤ 16 := by rw [← ht1]; exact bytT_size _ _
  have hz2 : t2.size ≤ 16 := by rw [← ht2]; exact bytT_size _ _
  have HR1 := Hid.mk (rValid_run v1 b1)
  have HR2 := Hid.mk (rValid_run v1 b2)
  rw [hr1] at HR1
  rw [hr2] at HR2
  have HB1 : Hid (∀ ww, Calls Tryd.prog 89 #[.agg (SC 17 (adV v1 b1))] ww fun e w' => e = .returned (.string t1) ∧ Below ww.heap.size ww w') := Hid.mk (fun ww => by rw [← ht1]; exact rBytes_run v1 b1 ww hb1)
  have HB2 : Hid (∀ ww, Calls Tryd.prog 89 #[.agg (SC 17 (adV v1 b2))] ww fun e w' => e = .returned (.string t2) ∧ Below ww.heap.size ww w') := Hid.mk (fun ww => by rw [← ht2]; exact rBytes_run v1 b2 ww hb2)
  clear hT ht1 ht2 hr1 hr2 hb1 hb2
  have i1 : ¬ (pr : Int) < 0 := by omega
  have i2 : ¬ (255 : Int) < (pr : Int) := by omega
  have i3 : ¬ (sz : Int) < 0 := by omega
  have i4 : ¬ (65535 : Int) < (sz : Int) := by omega
  go_enter Tryd.func67, Tryd.ntmps67
  go_wp2_with (refine wl_boxWW rfl rfl rfl rfl isAddr isAddr (by rfl) (fun u => by rfl) ?_; intro g1 g2 u2 hg1 hg2 q1a q2 hB2; refine Hid.out ?_)
  refine Hid.mk ?_
  go_wp2_with (refine wl_value rfl (look_st rfl isAddr q1a (by rfl)) ?_)
  refine (HR1.out u2).mono ?_
  rintro e u3 ⟨rfl, hB3⟩
  have q2b := SAt.kept q2 hB3
  go_wp2_with (refine wl_value rfl (look_st rfl isAddr q2b (by rfl)) ?_)
  refine (HR2.out u3).mono ?_
  rintro e u4 ⟨rfl, hB4⟩
  have q1d := SAt.kept (SAt.kept q1a hB3) hB4
  have q2d := SAt.kept q2b hB4
  have c1 := ad_v q1d
  have c2 := ad_v q2d
  have hBd : Below w.heap.size w u4 := (hB2.trans (hB3.mono hB2.size)).trans (hB4.mono (Nat.le_trans hB2.size hB3.size))
  clear HR1 HR2 q2 q1a q2b hB2 hB3 hB4 hg1 hg2
  obtain ⟨vv, hvv⟩ : ∃ vv, v1 = vv := ⟨_, rfl⟩
  cases v1
  · have H1 : Hid (∀ ww, Below u4.heap.size u4 ww → SAt ww g1 24 17 (adV false b1)) := Hid.mk (fun ww hh => SAt.kept q1d hh)
    have H2 : Hid (∀ ww, Below u4.heap.size u4 ww → SAt ww g2 24 17 (adV false b2)) := Hid.mk (fun ww hh => SAt.kept q2d hh)
    clear q1d q2d hvv vv
    obtain ⟨usz, husz⟩ : ∃ u, putT sz 2 = u := ⟨_, rfl⟩
    obtain ⟨upr, hupr⟩ : ∃ u, putT pr 2 = u := ⟨_, rfl⟩
    have hszs : usz.size = 2 := by rw [← husz]; exact mkS_size _ _
    have hprs : upr.size = 2 := by rw [← hupr]; exact mkS_size _ _
    have HUsz : Hid (∀ ww, Calls Tryd.prog 36 #[.int .u64 (sz : Int), .int .i64 2] ww fun e w' => e = .returned (.string usz) ∧ Below ww.heap.size ww w') := Hid.mk (fun ww => by rw [← husz]; exact rPut_run sz 2 ww (by omega) (by omega) (by omega))
    have HUpr : Hid (∀ ww, Calls Tryd.prog 36 #[.int .u64 (pr : Int), .int .i64 2] ww fun e w' => e = .returned (.string upr) ∧ Below ww.heap.size ww w') := Hid.mk (fun ww => by rw [← hupr]; exact rPut_run pr 2 ww (by omega) (by omega) (by omega))
    have HT2 : Hid (T = (((t1 ++ t2) ++ upr) ++ usz)) := Hid.mk (by rw [HT.out]; simp [pseT, HTT.out.1, HTT.out.2, husz, hupr])
    clear husz hupr HT HTT
    go_upto_region 7 with fail
    refine wp_region3 (Below u4.heap.size u4) u4.heap.size
        ([] : List (Nat × Cont))
        [kv (.agg (SC 17 (adV false b1))), kv (.string t1), kv (.agg (SC 17 (adV false b2))), kv (.string t2), kv (.string (t1 ++ t2)), kv (.int .i64 (pr : Int)), kv (.int .u64 (pr : Int)), kv (.string upr), kv (.string ((t1 ++ t2) ++ upr)), kv (.int .i64 (sz : Int)), kv (.int .u64 (sz : Int)), kv (.string usz), kv (.string (((t1 ++ t2) ++ upr) ++ usz)), kv (.string (((t1 ++ t2) ++ upr) ++ usz))]
        [.none, .none, .none, .none, .none, .none, .none, .none, .none, .none, .none, .none, .none, .none]
        [some 59, some 60, some 61, some 62, some 63, some 64, some 65, some 66, some 67, some 68, some 69, some 70, some 71, some 8]
        [(4, .pointer (some ⟨g1, 0, none⟩)), (5, .pointer (some ⟨g2, 0, none⟩)), (2, .int .i64 (pr : Int)), (3, .int .i64 (sz : Int))]
        [[], [.slot 0], [], [.slot 2], [.slot 1, .slot 3], [], [.slot 5], [.slot 6], [.slot 4, .slot 7], [], [.slot 9], [.slot 10], [.slot 8, .slot 11], [.slot 12]]
        [.slot 13] [59, 60, 61, 62, 63, 64, 65, 66, 67, 68, 69, 70, 71, 8]
        rfl (by kernel_rfl) ⟨rfl, rfl, rfl, rfl, trivial⟩ ((Below.refl _ u4).drew) (Nat.le_refl _) trivial trivial (below_GcW (Nat.le_refl _))
        ⟨
          (fun Q aq ww own hS hBg fr kn => .inl ⟨trivial, fun K hK => wp_value (look_st rfl isAddr (H1.out ww hS) fr.1) (hK _ _ ⟨Touch.refl _ _, rfl⟩)⟩),
          (fun Q aq ww own hS hBg fr kn => .inl ⟨trivial, fun K hK => stepc enterW_By rfl (args1 kn.1) (HB1.out ww) (fun w' hb => hK _ _ ⟨touch_below hb, rfl⟩)⟩),
          (fun Q aq ww own hS hBg fr kn => .inl ⟨trivial, fun K hK => wp_value (look_st rfl isAddr (H2.out ww hS) fr.2.1) (hK _ _ ⟨Touch.refl _ _, rfl⟩)⟩),
          (fun Q aq ww own hS hBg fr kn => .inl ⟨trivial, fun K hK => stepc enterW_By rfl (args1 kn.1) (HB2.out ww) (fun w' hb => hK _ _ ⟨touch_below hb, rfl⟩)⟩),
          (fun Q aq ww own hS hBg fr kn => .inl ⟨trivial, fun K hK => wp_value (exec_catS rfl kn.1 kn.2.1 (by (try simp only [ByteArray.size_append]); omega)) (hK _ _ ⟨Touch.refl _ _, rfl⟩)⟩),
          (fun Q aq ww own hS hBg fr kn => .inl ⟨trivial, fun K hK => wp_value (exec_move rfl fr.2.2.1) (hK _ _ ⟨Touch.refl _ _, rfl⟩)⟩),
          (fun Q aq ww own hS hBg fr kn => .inl ⟨trivial, fun K hK => wp_value (exec_cvIU rfl kn.1 (by omega)) (hK _ _ ⟨Touch.refl _ _, rfl⟩)⟩),
          (fun Q aq ww own hS hBg fr kn => .inl ⟨trivial, fun K hK => stepc enterW_Pu rfl (args2 kn.1 rfl) (HUpr.out ww) (fun w' hb => hK _ _ ⟨touch_below hb, rfl⟩)⟩),
          (fun Q aq ww own hS hBg fr kn => .inl ⟨trivial, fun K hK => wp_value (exec_catS rfl kn.1 kn.2.1 (by (try simp only [ByteArray.size_append]); omega)) (hK _ _ ⟨Touch.refl _ _, rfl⟩)⟩),
          (fun Q aq ww own hS hBg fr kn => .inl ⟨trivial, fun K hK => wp_value (exec_move rfl fr.2.2.2.1) (hK _ _ ⟨Touch.refl _ _, rfl⟩)⟩),
          (fun Q aq ww own hS hBg fr kn => .inl ⟨trivial, fun K hK => wp_value (exec_cvIU rfl kn.1 (by omega)) (hK _ _ ⟨Touch.refl _ _, rfl⟩)⟩),
          (fun Q aq ww own hS hBg fr kn => .inl ⟨trivial, fun K hK => stepc enterW_Pu rfl (args2 kn.1 rfl) (HUsz.out ww) (fun w' hb => hK _ _ ⟨touch_below hb, rfl⟩)⟩),
          (fun Q aq ww own hS hBg fr kn => .inl ⟨trivial, fun K hK => wp_value (exec_catS rfl kn.1 kn.2.1 (by (try simp only [ByteArray.size_append]); omega)) (hK _ _ ⟨Touch.refl _ _, rfl⟩)⟩),
          (fun Q aq ww own hS hBg fr kn => .inl ⟨trivial, fun K hK => wp_value (exec_assign rfl kn.1) (hK _ _ ⟨Touch.refl _ _, rfl⟩)⟩),
          trivial⟩ ?_
    intro vs own u6 hB6 hsz6 kn inj
    have e8 : vs 8 = .string (((t1 ++ t2) ++ upr) ++ usz) := kn.1
    clear kn inj hsz6
    simp only [putAll, Act.put, List.setIfInBounds_toArray, List.set_cons_zero, List.set_cons_succ, e8]
    clear e8
    go_wp2_with fail
    go_ret
    exact ⟨by rw [HT2.out]; rfl, hBd.trans (hB6.mono hBd.size)⟩
  · have H1 : Hid (∀ ww, Below u4.heap.size u4 ww → SAt ww g1 24 17 (adV true b1)) := Hid.mk (fun ww hh => SAt.kept q1d hh)
    have H2 : Hid (∀ ww, Below u4.heap.size u4 ww → SAt ww g2 24 17 (adV true b2)) := Hid.mk (fun ww hh => SAt.kept q2d hh)
    clear q1d q2d hvv vv
    obtain ⟨usz, husz⟩ : ∃ u, putT sz 4 = u := ⟨_, rfl⟩
    obtain ⟨upr, hupr⟩ : ∃ u, putT pr 4 = u := ⟨_, rfl⟩
    have hszs : usz.size = 4 := by rw [← husz]; exact mkS_size _ _
    have hprs : upr.size = 4 := by rw [← hupr]; exact mkS_size _ _
    have HUsz : Hid (∀ ww, Calls Tryd.prog 36 #[.int .u64 (sz : Int), .int .i64 4] ww fun e w' => e = .returned (.string usz) ∧ Below ww.heap.size ww w') := Hid.mk (fun ww => by rw [← husz]; exact rPut_run sz 4 ww (by omega) (by omega) (by omega))
    have HUpr : Hid (∀ ww, Calls Tryd.prog 36 #[.int .u64 (pr : Int), .int .i64 4] ww fun e w' => e = .returned (.string upr) ∧ Below ww.heap.size ww w') := Hid.mk (fun ww => by rw [← hupr]; exact rPut_run pr 4 ww (by omega) (by omega) (by omega))
    have HT2 : Hid (T = (((t1 ++ t2) ++ usz) ++ upr)) := Hid.mk (by rw [HT.out]; simp [pseT, HTT.out.1, HTT.out.2, husz, hupr])
    clear husz hupr HT HTT
    go_upto_region 6 with fail
    refine wp_region3 (Below u4.heap.size u4) u4.heap.size
        ([] : List (Nat × Cont))
        [kv (.agg (SC 17 (adV true b1))), kv (.string t1), kv (.agg (SC 17 (adV true b2))), kv (.string t2), kv (.string (t1 ++ t2)), kv (.int .i64 (sz : Int)), kv (.int .u64 (sz : Int)), kv (.string usz), kv (.string ((t1 ++ t2) ++ usz)), kv (.int .i64 (pr : Int)), kv (.int .u64 (pr : Int)), kv (.string upr), kv (.string (((t1 ++ t2) ++ usz) ++ upr)), kv (.string (((t1 ++ t2) ++ usz) ++ upr))]
        [.none, .none, .none, .none, .none, .none, .none, .none, .none, .none, .none, .none, .none, .none]
        [some 46, some 47, some 48, some 49, some 50, some 51, some 52, some 53, some 54, some 55, some 56, some 57, some 58, some 8]
        [(4, .pointer (some ⟨g1, 0, none⟩)), (5, .pointer (some ⟨g2, 0, none⟩)), (2, .int .i64 (pr : Int)), (3, .int .i64 (sz : Int))]
        [[], [.slot 0], [], [.slot 2], [.slot 1, .slot 3], [], [.slot 5], [.slot 6], [.slot 4, .slot 7], [], [.slot 9], [.slot 10], [.slot 8, .slot 11], [.slot 12]]
        [.slot 13] [46, 47, 48, 49, 50, 51, 52, 53, 54, 55, 56, 57, 58, 8]
        rfl (by kernel_rfl) ⟨rfl, rfl, rfl, rfl, trivial⟩ ((Below.refl _ u4).drew) (Nat.le_refl _) trivial trivial (below_GcW (Nat.le_refl _))
        ⟨
          (fun Q aq ww own hS hBg fr kn => .inl ⟨trivial, fun K hK => wp_value (look_st rfl isAddr (H1.out ww hS) fr.1) (hK _ _ ⟨Touch.refl _ _, rfl⟩)⟩),
          (fun Q aq ww own hS hBg fr kn => .inl ⟨trivial, fun K hK => stepc enterW_By rfl (args1 kn.1) (HB1.out ww) (fun w' hb => hK _ _ ⟨touch_below hb, rfl⟩)⟩),
          (fun Q aq ww own hS hBg fr kn => .inl ⟨trivial, fun K hK => wp_value (look_st rfl isAddr (H2.out ww hS) fr.2.1) (hK _ _ ⟨Touch.refl _ _, rfl⟩)⟩),
          (fun Q aq ww own hS hBg fr kn => .inl ⟨trivial, fun K hK => stepc enterW_By rfl (args1 kn.1) (HB2.out ww) (fun w' hb => hK _ _ ⟨touch_below hb, rfl⟩)⟩),
          (fun Q aq ww own hS hBg fr kn => .inl ⟨trivial, fun K hK => wp_value (exec_catS rfl kn.1 kn.2.1 (by (try simp only [ByteArray.size_append]); omega)) (hK _ _ ⟨Touch.refl _ _, rfl⟩)⟩),
          (fun Q aq ww own hS hBg fr kn => .inl ⟨trivial, fun K hK => wp_value (exec_move rfl fr.2.2.2.1) (hK _ _ ⟨Touch.refl _ _, rfl⟩)⟩),
          (fun Q aq ww own hS hBg fr kn => .inl ⟨trivial, fun K hK => wp_value (exec_cvIU rfl kn.1 (by omega)) (hK _ _ ⟨Touch.refl _ _, rfl⟩)⟩),
          (fun Q aq ww own hS hBg fr kn => .inl ⟨trivial, fun K hK => stepc enterW_Pu rfl (args2 kn.1 rfl) (HUsz.out ww) (fun w' hb => hK _ _ ⟨touch_below hb, rfl⟩)⟩),
          (fun Q aq ww own hS hBg fr kn => .inl ⟨trivial, fun K hK => wp_value (exec_catS rfl kn.1 kn.2.1 (by (try simp only [ByteArray.size_append]); omega)) (hK _ _ ⟨Touch.refl _ _, rfl⟩)⟩),
          (fun Q aq ww own hS hBg fr kn => .inl ⟨trivial, fun K hK => wp_value (exec_move rfl fr.2.2.1) (hK _ _ ⟨Touch.refl _ _, rfl⟩)⟩),
          (fun Q aq ww own hS hBg fr kn => .inl ⟨trivial, fun K hK => wp_value (exec_cvIU rfl kn.1 (by omega)) (hK _ _ ⟨Touch.refl _ _, rfl⟩)⟩),
          (fun Q aq ww own hS hBg fr kn => .inl ⟨trivial, fun K hK => stepc enterW_Pu rfl (args2 kn.1 rfl) (HUpr.out ww) (fun w' hb => hK _ _ ⟨touch_below hb, rfl⟩)⟩),
          (fun Q aq ww own hS hBg fr kn => .inl ⟨trivial, fun K hK => wp_value (exec_catS rfl kn.1 kn.2.1 (by (try simp only [ByteArray.size_append]); omega)) (hK _ _ ⟨Touch.refl _ _, rfl⟩)⟩),
          (fun Q aq ww own hS hBg fr kn => .inl ⟨trivial, fun K hK => wp_value (exec_assign rfl kn.1) (hK _ _ ⟨Touch.refl _ _, rfl⟩)⟩),
          trivial⟩ ?_
    intro vs own u6 hB6 hsz6 kn inj
    have e8 : vs 8 = .string (((t1 ++ t2) ++ usz) ++ upr) := kn.1
    clear kn inj hsz6
    simp only [putAll, Act.put, List.setIfInBounds_toArray, List.set_cons_zero, List.set_cons_succ, e8]
    clear e8
    go_wp2_with fail
    go_ret
    exact ⟨by rw [HT2.out]; rfl, hBd.trans (hB6.mono hBd.size)⟩
end Go.Proofs.YtojekoakgpkkdaaDoor

/-
  Own text. The program's pseudo header.
-/
namespace Go.Proofs.YtojekoakgpkkdaaDoor
open Go.RowKit Go.Proofs
set_option maxRecDepth 100000
theorem put_four {n : Nat} (hn : n < 256) : putT n 4 = ⟨#[0, 0, 0]⟩ ++ putT n 1 := by
  have h0 : putF n 4 0 = 0 := by unfold putF; simp; omega
  have h1 : putF n 4 1 = 0 := by unfold putF; simp; omega
  have h2 : putF n 4 2 = 0 := by unfold putF; simp; omega
  have h3 : putF n 4 3 = putF n 1 0 := by unfold putF; simp
  apply same_ext
  · rw [ByteArray.size_append]
    exact mkS_size _ _
  · intro j hj
    have hs : (putT n 4).size = 4 := mkS_size _ _
    rw [hs] at hj
    have ht : txt (putT n 4) j = putF n 4 j := txt_mkS (putF_b n 4 j) hj
    have ht1 : txt (putT n 1) 0 = putF n 1 0 := txt_mkS (putF_b n 1 0) (by decide)
    rw [ht, txt_append]
    match j, hj with
    | 0, _ => rw [h0]; rfl
    | 1, _ => rw [h1]; rfl
    | 2, _ => rw [h2]; rfl
    | 3, _ => rw [h3, ← ht1]; rfl
theorem put_two {n : Nat} (hn : n < 256) : putT n 2 = ⟨#[0]⟩ ++ putT n 1 := by
  have h0 : putF n 2 0 = 0 := by unfold putF; simp; omega
  have h3 : putF n 2 1 = putF n 1 0 := by unfold putF; simp
  apply same_ext
  · rw [ByteArray.size_append]
    exact mkS_size _ _
  · intro j hj
    have hs : (putT n 2).size = 2 := mkS_size _ _
    rw [hs] at hj
    have ht : txt (putT n 2) j = putF n 2 j := txt_mkS (putF_b n 2 j) hj
    have ht1 : txt (putT n 1) 0 = putF n 1 0 := txt_mkS (putF_b n 1 0) (by decide)
    rw [ht, txt_append]
    match j, hj with
    | 0, _ => rw [h0]; rfl
    | 1, _ => rw [h3, ← ht1]; rfl
theorem enterW_ByC (args : Array Value) (w : World) : (callFunc 101 args).run Tryd.prog w = .ok (.enter 101 args) w := by kernel_rfl
theorem enterW_PuC (args : Array Value) (w : World) : (callFunc 33 args).run Tryd.prog w = .ok (.enter 33 args) w := by kernel_rfl
set_option maxHeartbeats 16000000 in
theorem Pseudo_no (v1 : Bool) (b1 : Nat → Int) (v2 : Bool) (b2 : Nat → Int) (pr sz : Int) (w : World) (h : ¬ pseOk v1 b1 v2 b2 pr sz) : Calls Tryd.prog 88 #[.agg (SC 17 (adV v1 b1)), .agg (SC 17 (adV v2 b2)), .int .i64 pr, .int .i64 sz] w fun e w' => e = .returned (.string ByteArray.empty) ∧ Below w.heap.size w w' := by
  unfold pseOk at h
  have HR1 := Hid.mk (Valid_run v1 b1)
  have HR2 := Hid.mk (Valid_run v2 b2)
  generalize validF v1 b1 = r1 at *
  generalize validF v2 b2 = r2 at *
  have HH := Hid.mk h
  clear h
  go_enter Tryd.func88, Tryd.ntmps88
  go_wp2_with (refine wl_boxWW rfl rfl rfl rfl isAddr isAddr (by rfl) (fun u => by rfl) ?_; intro g1 g2 u2 hg1 hg2 q1a q2 hB2; refine Hid.out ?_)
  refine Hid.mk ?_
  go_wp2_with (refine wl_value rfl (look_st rfl isAddr q1a (by rfl)) ?_)
  refine (HR1.out u2).mono ?_
  rintro e u3 ⟨rfl, hB3⟩
  have q2b := SAt.kept q2 hB3
  have hBc : Below w.heap.size w u3 := hB2.trans (hB3.mono hB2.size)
  cases r1
  · go_wp2_with fail
    go_ret
    exact ⟨rfl, hBc⟩
  · go_wp2_with (refine wl_value rfl (look_st rfl isAddr q2b (by rfl)) ?_)
    refine (HR2.out u3).mono ?_
    rintro e u4 ⟨rfl, hB4⟩
    have c1 := ad_v (SAt.kept (SAt.kept q1a hB3) hB4)
    have c2 := ad_v (SAt.kept q2b hB4)
    have hBd : Below w.heap.size w u4 := hBc.trans (hB4.mono hBc.size)
    clear HR1 HR2 q2 q1a q2b hB2 hB3 hB4
    cases r2
    · go_wp2_with fail
      go_ret
      exact ⟨rfl, hBd⟩
    · by_cases hv : v1 = v2
      · subst hv
        have h' : pr < 0 ∨ 255 < pr ∨ sz < 0 ∨ 65535 < sz := by
          have hh := HH.out
          simp at hh
          omega
        by_cases e1 : pr < 0
        · cases v1 <;> (go_wp2_with fail; go_ret; exact ⟨rfl, hBd⟩)
        · by_cases e2 : 255 < pr
          · cases v1 <;> (go_wp2_with fail; go_ret; exact ⟨rfl, hBd⟩)
          · by_cases e3 : sz < 0
            · cases v1 <;> (go_wp2_with fail; go_ret; exact ⟨rfl, hBd⟩)
            · have e4 : 65535 < sz := by omega
              cases v1 <;> (go_wp2_with fail; go_ret; exact ⟨rfl, hBd⟩)
      · cases v1 <;> cases v2 <;> first | exact absurd rfl hv | (go_wp2_with fail; go_ret; exact ⟨rfl, hBd⟩)
set_option maxHeartbeats 16000000 in
theorem Pseudo_run (v : Bool) (b1 : Nat → Int) (b2 : Nat → Int) (pr sz : Nat) (w : World) (hb1 : Byts 16 b1) (hb2 : Byts 16 b2) (h1 : validF v b1 = true) (h2 : validF v b2 = true) (hpr : pr ≤ 255) (hsz : sz ≤ 65535) : Calls Tryd.prog 88 #[.agg (SC 17 (adV v b1)), .agg (SC 17 (adV v b2)), .int .i64 (pr : Int), .int .i64 (sz : Int)] w fun e w' => e = .returned (.string (pseT v b1 v b2 pr sz)) ∧ Below w.heap.size w w' := by
  have HR1 : Hid (∀ ww, Calls Tryd.prog 47 #[.agg (SC 17 (adV v b1))] ww fun e w' => e = .returned (.bool true) ∧ Below ww.heap.size ww w') := Hid.mk (fun ww => by rw [← h1]; exact Valid_run v b1 ww)
  have HR2 : Hid (∀ ww, Calls Tryd.prog 47 #[.agg (SC 17 (adV v b2))] ww fun e w' => e = .returned (.bool true) ∧ Below ww.heap.size ww w') := Hid.mk (fun ww => by rw [← h2]; exact Valid_run v b2 ww)
  have HB1 : Hid (∀ ww, Calls Tryd.prog 101 #[.agg (SC 17 (adV v b1))] ww fun e w' => e = .returned (.string (bytT v b1)) ∧ Below ww.heap.size ww w') := Hid.mk (fun ww => Bytes_run v b1 ww hb1)
  have HB2 : Hid (∀ ww, Calls Tryd.prog 101 #[.agg (SC 17 (adV v b2))] ww fun e w' => e = .returned (.string (bytT v b2)) ∧ Below ww.heap.size ww w') := Hid.mk (fun ww => Bytes_run v b2 ww hb2)
  have HK : Hid (∀ ww, Calls Tryd.prog 33 #[.int .u64 (pr : Int), .int .i64 1] ww fun e w' => e = .returned (.string (putT pr 1)) ∧ Below ww.heap.size ww w') := Hid.mk (fun ww => Put_run pr 1 ww (by decide) (by decide))
  have s1 := bytT_size v b1
  have s2 := bytT_size v b2
  have sk : (putT pr 1).size = 1 := mkS_size _ _
  have HT4 : Hid (pseT true b1 true b2 pr sz = bytT true b1 ++ bytT true b2 ++ putT sz 4 ++ ⟨#[0, 0, 0]⟩ ++ putT pr 1) := Hid.mk (by
    unfold pseT
    rw [if_pos rfl, put_four (n := pr) (by omega), ← ByteArray.append_assoc])
  have HT2 : Hid (pseT false b1 false b2 pr sz = bytT false b1 ++ bytT false b2 ++ ⟨#[0]⟩ ++ putT pr 1 ++ putT sz 2) := Hid.mk (by
    unfold pseT
    rw [if_neg (by decide), put_two (n := pr) (by omega), ← ByteArray.append_assoc])
  have hz4 : (putT sz 4).size = 4 := mkS_size _ _
  have hz2 : (putT sz 2).size = 2 := mkS_size _ _
  have i1 : ¬ (pr : Int) < 0 := by omega
  have i2 : ¬ (255 : Int) < (pr : Int) := by omega
  have i3 : ¬ (sz : Int) < 0 := by omega
  have i4 : ¬ (65535 : Int) < (sz : Int) := by omega
  go_enter Tryd.func88, Tryd.ntmps88
  go_wp2_with (refine wl_boxWW rfl rfl rfl rfl isAddr isAddr (by rfl) (fun u => by rfl) ?_; intro g1 g2 u2 hg1 hg2 q1a q2a hB2; refine Hid.out ?_)
  refine Hid.mk ?_
  go_wp2_with (refine wl_value rfl (look_st rfl isAddr q1a (by rfl)) ?_)
  refine (HR1.out u2).mono ?_
  rintro e u3 ⟨rfl, hB3⟩
  have q1b := SAt.kept q1a hB3
  have q2b := SAt.kept q2a hB3
  have hBc : Below w.heap.size w u3 := hB2.trans (hB3.mono hB2.size)
  go_wp2_with (refine wl_value rfl (look_st rfl isAddr q2b (by rfl)) ?_)
  refine (HR2.out u3).mono ?_
  rintro e u4 ⟨rfl, hB4⟩
  have q1 := SAt.kept q1b hB4
  have q2 := SAt.kept q2b hB4
  have c1 := ad_v q1
  have c2 := ad_v q2
  have hBd : Below w.heap.size w u4 := hBc.trans (hB4.mono hBc.size)
  clear HR1 HR2 q1a q1b q2a q2b hB2 hB3 hB4 hBc
  cases v
  · have HC0 : Hid ((bytT false b1).size + (bytT false b2).size ≤ 9223372036854775807) := Hid.mk (by omega)
    obtain ⟨t1, ht1⟩ : ∃ t1, bytT false b1 = t1 := ⟨_, rfl⟩
    obtain ⟨t2, ht2⟩ : ∃ t2, bytT false b2 = t2 := ⟨_, rfl⟩
    obtain ⟨k1, hk1⟩ : ∃ k1, putT pr 1 = k1 := ⟨_, rfl⟩
    rw [ht1] at HC0 HB1 s1
    rw [ht2] at HC0 HB2 s2
    rw [hk1] at HK sk
    rw [ht1, ht2, hk1] at HT2
    clear ht1 ht2 hk1 HT4
    go_upto_region 3 with (first | (refine wl_value rfl (exec_fadW0 rfl (by rfl)) ?_) | (refine wl_value rfl (exec_ld rfl (by rfl) (ldWb c1)) ?_) | (refine wl_value rfl (exec_ld rfl (by rfl) (ldWb c2)) ?_))
    refine wp_region3 (Below u4.heap.size u4) u4.heap.size
        ([] : List (Nat × Cont))
        [kv (.agg (SC 17 (adV false b1))), kv (.string t1), kv (.agg (SC 17 (adV false b2))), kv (.string t2), kv (.string (t1 ++ t2)), kv (.int .i64 (pr : Int)), kv (.int .u64 (pr : Int)), kv (.string k1), kv (.string (t1 ++ t2)), kv (.string k1)]
        [.none, .none, .none, .none, .none, .none, .none, .none, .none, .none]
        [some 42, some 43, some 44, some 45, some 46, some 47, some 48, some 49, some 9, some 10]
        [(4, .pointer (some ⟨g1, 0, none⟩)), (5, .pointer (some ⟨g2, 0, none⟩)), (2, .int .i64 (pr : Int))]
        [[], [.slot 0], [], [.slot 2], [.slot 1, .slot 3], [], [.slot 5], [.slot 6], [.slot 4], [.slot 7]]
        [.slot 8, .slot 9] [42, 43, 44, 45, 46, 47, 48, 49, 9, 10]
        rfl (by kernel_rfl) ⟨rfl, rfl, rfl, trivial⟩ ((Below.refl _ u4).drew) (Nat.le_refl _) trivial trivial (below_GcW (Nat.le_refl _))
        ⟨
          (fun Q aq ww own hS hBg fr kn => .inl ⟨trivial, fun K hK => wp_value (look_st rfl isAddr (SAt.kept q1 hS) fr.1) (hK _ _ ⟨Touch.refl _ _, rfl⟩)⟩),
          (fun Q aq ww own hS hBg fr kn => .inl ⟨trivial, fun K hK => stepc enterW_ByC rfl (args1 kn.1) (HB1.out ww) (fun w' hb => hK _ _ ⟨touch_below hb, rfl⟩)⟩),
          (fun Q aq ww own hS hBg fr kn => .inl ⟨trivial, fun K hK => wp_value (look_st rfl isAddr (SAt.kept q2 hS) fr.2.1) (hK _ _ ⟨Touch.refl _ _, rfl⟩)⟩),
          (fun Q aq ww own hS hBg fr kn => .inl ⟨trivial, fun K hK => stepc enterW_ByC rfl (args1 kn.1) (HB2.out ww) (fun w' hb => hK _ _ ⟨touch_below hb, rfl⟩)⟩),
          (fun Q aq ww own hS hBg fr kn => .inl ⟨trivial, fun K hK => wp_value (exec_catS rfl kn.1 kn.2.1 HC0.out) (hK _ _ ⟨Touch.refl _ _, rfl⟩)⟩),
          (fun Q aq ww own hS hBg fr kn => .inl ⟨trivial, fun K hK => wp_value (exec_move rfl fr.2.2.1) (hK _ _ ⟨Touch.refl _ _, rfl⟩)⟩),
          (fun Q aq ww own hS hBg fr kn => .inl ⟨trivial, fun K hK => wp_value (exec_cvIU (m := pr) rfl kn.1 (by omega)) (hK _ _ ⟨Touch.refl _ _, rfl⟩)⟩),
          (fun Q aq ww own hS hBg fr kn => .inl ⟨trivial, fun K hK => stepc enterW_PuC rfl (args2 kn.1 rfl) (HK.out ww) (fun w' hb => hK _ _ ⟨touch_below hb, rfl⟩)⟩),
          (fun Q aq ww own hS hBg fr kn => .inl ⟨trivial, fun K hK => wp_value (exec_assign rfl kn.1) (hK _ _ ⟨Touch.refl _ _, rfl⟩)⟩),
          (fun Q aq ww own hS hBg fr kn => .inl ⟨trivial, fun K hK => wp_value (exec_assign rfl kn.1) (hK _ _ ⟨Touch.refl _ _, rfl⟩)⟩),
          trivial⟩ ?_
    intro vs own u6 hB6 hsz6 kn inj
    have e9 : vs 9 = .string (t1 ++ t2) := kn.1
    have e10 : vs 10 = .string k1 := kn.2.1
    clear kn inj hsz6
    simp only [putAll, Act.put, List.setIfInBounds_toArray, List.set_cons_zero, List.set_cons_succ, e9, e10]
    clear e9 e10
    have hBe := hBd.trans (hB6.mono hBd.size)
    have c3 := ad_v (SAt.kept q1 hB6)
    obtain ⟨z2, hz2e⟩ : ∃ z2, putT sz 2 = z2 := ⟨_, rfl⟩
    rw [hz2e] at HT2 hz2
    have HP2 : Hid (∀ ww, Calls Tryd.prog 33 #[.int .u64 (sz : Int), .int .i64 2] ww fun e w' => e = .returned (.string z2) ∧ Below ww.heap.size ww w') := Hid.mk (fun ww => by rw [← hz2e]; exact Put_run sz 2 ww (by decide) (by decide))
    clear hz2e
    have hl3 : (⟨#[0]⟩ : ByteArray).size = 1 := rfl
    have C1 : Hid ((t1 ++ t2).size + (⟨#[0]⟩ : ByteArray).size ≤ 9223372036854775807) := Hid.mk (by rw [ByteArray.size_append, hl3]; omega)
    have C2 : Hid ((t1 ++ t2 ++ ⟨#[0]⟩).size + k1.size ≤ 9223372036854775807) := Hid.mk (by rw [ByteArray.size_append, ByteArray.size_append, hl3]; omega)
    have C3 : Hid ((t1 ++ t2 ++ ⟨#[0]⟩ ++ k1).size + z2.size ≤ 9223372036854775807) := Hid.mk (by rw [ByteArray.size_append, ByteArray.size_append, ByteArray.size_append, hl3]; omega)
    go_wp2_with (first | (refine wl_value rfl (exec_fadW0 rfl (by rfl)) ?_) | (refine wl_value rfl (exec_ld rfl (by rfl) (ldWb c3)) ?_) | (refine wl_value rfl (exec_cvIU (m := sz) rfl (by rfl) (by omega)) ?_) | (refine wl_value rfl (exec_catS (t := ⟨#[0]⟩) rfl (by rfl) (by rfl) C1.out) ?_) | (refine wl_value rfl (exec_catS rfl (by rfl) (by rfl) C2.out) ?_) | (go_at_call 33; refine (HP2.out _).mono ?_; rintro e u7 ⟨rfl, hB7⟩; refine Hid.out ?_))
    refine Hid.mk ?_
    go_wp2_with (first | (refine wl_value rfl (exec_catS rfl (by rfl) (by rfl) C3.out) ?_))
    go_ret
    exact ⟨by rw [HT2.out]; rfl, hBe.trans (hB7.mono hBe.size)⟩
  · have HC0 : Hid ((bytT true b1).size + (bytT true b2).size ≤ 9223372036854775807) := Hid.mk (by omega)
    obtain ⟨t1, ht1⟩ : ∃ t1, bytT true b1 = t1 := ⟨_, rfl⟩
    obtain ⟨t2, ht2⟩ : ∃ t2, bytT true b2 = t2 := ⟨_, rfl⟩
    obtain ⟨k1, hk1⟩ : ∃ k1, putT pr 1 = k1 := ⟨_, rfl⟩
    rw [ht1] at HC0 HB1 s1
    rw [ht2] at HC0 HB2 s2
    rw [hk1] at HK sk
    rw [ht1, ht2, hk1] at HT4
    clear ht1 ht2 hk1 HT2
    go_upto_region 3 with (first | (refine wl_value rfl (exec_fadW0 rfl (by rfl)) ?_) | (refine wl_value rfl (exec_ld rfl (by rfl) (ldWb c1)) ?_) | (refine wl_value rfl (exec_ld rfl (by rfl) (ldWb c2)) ?_))
    refine wp_region3 (Below u4.heap.size u4) u4.heap.size
        ([] : List (Nat × Cont))
        [kv (.agg (SC 17 (adV true b1))), kv (.string t1), kv (.agg (SC 17 (adV true b2))), kv (.string t2), kv (.string (t1 ++ t2)), kv (.int .i64 (pr : Int)), kv (.int .u64 (pr : Int)), kv (.string k1), kv (.string (t1 ++ t2)), kv (.string k1)]
        [.none, .none, .none, .none, .none, .none, .none, .none, .none, .none]
        [some 42, some 43, some 44, some 45, some 46, some 47, some 48, some 49, some 9, some 10]
        [(4, .pointer (some ⟨g1, 0, none⟩)), (5, .pointer (some ⟨g2, 0, none⟩)), (2, .int .i64 (pr : Int))]
        [[], [.slot 0], [], [.slot 2], [.slot 1, .slot 3], [], [.slot 5], [.slot 6], [.slot 4], [.slot 7]]
        [.slot 8, .slot 9] [42, 43, 44, 45, 46, 47, 48, 49, 9, 10]
        rfl (by kernel_rfl) ⟨rfl, rfl, rfl, trivial⟩ ((Below.refl _ u4).drew) (Nat.le_refl _) trivial trivial (below_GcW (Nat.le_refl _))
        ⟨
          (fun Q aq ww own hS hBg fr kn => .inl ⟨trivial, fun K hK => wp_value (look_st rfl isAddr (SAt.kept q1 hS) fr.1) (hK _ _ ⟨Touch.refl _ _, rfl⟩)⟩),
          (fun Q aq ww own hS hBg fr kn => .inl ⟨trivial, fun K hK => stepc enterW_ByC rfl (args1 kn.1) (HB1.out ww) (fun w' hb => hK _ _ ⟨touch_below hb, rfl⟩)⟩),
          (fun Q aq ww own hS hBg fr kn => .inl ⟨trivial, fun K hK => wp_value (look_st rfl isAddr (SAt.kept q2 hS) fr.2.1) (hK _ _ ⟨Touch.refl _ _, rfl⟩)⟩),
          (fun Q aq ww own hS hBg fr kn => .inl ⟨trivial, fun K hK => stepc enterW_ByC rfl (args1 kn.1) (HB2.out ww) (fun w' hb => hK _ _ ⟨touch_below hb, rfl⟩)⟩),
          (fun Q aq ww own hS hBg fr kn => .inl ⟨trivial, fun K hK => wp_value (exec_catS rfl kn.1 kn.2.1 HC0.out) (hK _ _ ⟨Touch.refl _ _, rfl⟩)⟩),
          (fun Q aq ww own hS hBg fr kn => .inl ⟨trivial, fun K hK => wp_value (exec_move rfl fr.2.2.1) (hK _ _ ⟨Touch.refl _ _, rfl⟩)⟩),
          (fun Q aq ww own hS hBg fr kn => .inl ⟨trivial, fun K hK => wp_value (exec_cvIU (m := pr) rfl kn.1 (by omega)) (hK _ _ ⟨Touch.refl _ _, rfl⟩)⟩),
          (fun Q aq ww own hS hBg fr kn => .inl ⟨trivial, fun K hK => stepc enterW_PuC rfl (args2 kn.1 rfl) (HK.out ww) (fun w' hb => hK _ _ ⟨touch_below hb, rfl⟩)⟩),
          (fun Q aq ww own hS hBg fr kn => .inl ⟨trivial, fun K hK => wp_value (exec_assign rfl kn.1) (hK _ _ ⟨Touch.refl _ _, rfl⟩)⟩),
          (fun Q aq ww own hS hBg fr kn => .inl ⟨trivial, fun K hK => wp_value (exec_assign rfl kn.1) (hK _ _ ⟨Touch.refl _ _, rfl⟩)⟩),
          trivial⟩ ?_
    intro vs own u6 hB6 hsz6 kn inj
    have e9 : vs 9 = .string (t1 ++ t2) := kn.1
    have e10 : vs 10 = .string k1 := kn.2.1
    clear kn inj hsz6
    simp only [putAll, Act.put, List.setIfInBounds_toArray, List.set_cons_zero, List.set_cons_succ, e9, e10]
    clear e9 e10
    have hBe := hBd.trans (hB6.mono hBd.size)
    have c3 := ad_v (SAt.kept q1 hB6)
    obtain ⟨z4, hz4e⟩ : ∃ z4, putT sz 4 = z4 := ⟨_, rfl⟩
    rw [hz4e] at HT4 hz4
    have HP4 : Hid (∀ ww, Calls Tryd.prog 33 #[.int .u64 (sz : Int), .int .i64 4] ww fun e w' => e = .returned (.string z4) ∧ Below ww.heap.size ww w') := Hid.mk (fun ww => by rw [← hz4e]; exact Put_run sz 4 ww (by decide) (by decide))
    clear hz4e
    have hl3 : (⟨#[0, 0, 0]⟩ : ByteArray).size = 3 := rfl
    have C1 : Hid ((t1 ++ t2).size + z4.size ≤ 9223372036854775807) := Hid.mk (by rw [ByteArray.size_append]; omega)
    have C2 : Hid ((t1 ++ t2 ++ z4).size + (⟨#[0, 0, 0]⟩ : ByteArray).size ≤ 9223372036854775807) := Hid.mk (by rw [ByteArray.size_append, ByteArray.size_append, hl3]; omega)
    have C3 : Hid ((t1 ++ t2 ++ z4 ++ ⟨#[0, 0, 0]⟩).size + k1.size ≤ 9223372036854775807) := Hid.mk (by rw [ByteArray.size_append, ByteArray.size_append, ByteArray.size_append, hl3]; omega)
    go_wp2_with (first | (refine wl_value rfl (exec_fadW0 rfl (by rfl)) ?_) | (refine wl_value rfl (exec_ld rfl (by rfl) (ldWb c3)) ?_) | (refine wl_value rfl (exec_cvIU (m := sz) rfl (by rfl) (by omega)) ?_) | (go_at_call 33; refine (HP4.out _).mono ?_; rintro e u7 ⟨rfl, hB7⟩; refine Hid.out ?_))
    refine Hid.mk ?_
    go_wp2_with (first | (refine wl_value rfl (exec_catS rfl (by rfl) (by rfl) C1.out) ?_) | (refine wl_value rfl (exec_catS (t := ⟨#[0, 0, 0]⟩) rfl (by rfl) (by rfl) C2.out) ?_) | (refine wl_value rfl (exec_catS rfl (by rfl) (by rfl) C3.out) ?_))
    go_ret
    exact ⟨by rw [HT4.out]; rfl, hBe.trans (hB7.mono hBe.size)⟩
end Go.Proofs.YtojekoakgpkkdaaDoor

/-
  Own text. IP packets as plain data: what may be, its bytes, how bytes are read. Names no function of the program.
-/
namespace Go.Proofs.YtojekoakgpkkdaaDoor
open Go.RowKit Go.Proofs
set_option maxRecDepth 100000
theorem get_put (s : ByteArray) (N z : Nat) (hz : z ≤ 8) : ∀ i, i ≤ z → getN (txt (s ++ putT N z)) s.size i = N / 256 ^ (z - i) % 256 ^ i
  | 0, _ => by
    unfold getN
    rw [Nat.pow_zero, Nat.mod_one]
  | i + 1, hi => by
    have ih := get_put s N z hz i (by omega)
    have ht : txt (s ++ putT N z) (s.size + i) = putF N z i := by
      rw [txt_append, if_neg (by omega), Nat.add_sub_cancel_left]
      exact txt_mkS (putF_b N z i) (by omega)
    show getN (txt (s ++ putT N z)) s.size i * 256 + (txt (s ++ putT N z) (s.size + i)).toNat = _
    rw [ih, ht]
    unfold putF
    rw [Int.toNat_natCast, show z - 1 - i = z - (i + 1) by omega, show z - i = z - (i + 1) + 1 by omega, Nat.pow_succ, ← Nat.div_div_eq_div_mul, Nat.pow_succ, Nat.mul_comm (256 ^ i) 256, Nat.mod_mul]
    omega
theorem sw_app (A B : ByteArray) (he : A.size % 2 = 0) : ∀ j, sw (txt (A ++ B)) (A.size + j) = sw (txt A) A.size + sw (txt B) j
  | 0 => by
    have g : ∀ i, i ≤ A.size → sw (txt (A ++ B)) i = sw (txt A) i := by
      intro i
      induction i with
      | zero => intro _; rfl
      | succ i ih =>
        intro hi
        have ht : txt (A ++ B) i = txt A i := by rw [txt_append, if_pos (by omega)]
        unfold sw
        rw [ih (by omega), ht]
    rw [Nat.add_zero, g A.size (Nat.le_refl _)]
    show _ = _ + 0
    omega
  | j + 1 => by
    have ih := sw_app A B he j
    rw [← Nat.add_assoc]
    show sw (txt (A ++ B)) (A.size + j) + (if (A.size + j) % 2 = 0 then 256 * txt (A ++ B) (A.size + j) else txt (A ++ B) (A.size + j)) = sw (txt A) A.size + (sw (txt B) j + (if j % 2 = 0 then 256 * txt B j else txt B j))
    have ht : txt (A ++ B) (A.size + j) = txt B j := by rw [txt_append, if_neg (by omega), Nat.add_sub_cancel_left]
    rw [ih, ht, show (A.size + j) % 2 = j % 2 by omega]
    omega
structure Ex where
  kind : Int
  body : ByteArray
structure Pk where
  sv : Bool
  sb : Nat → Int
  dv : Bool
  db : Nat → Int
  proto : Int
  hop : Int
  cls : Int
  id : Int
  off : Int
  more : Bool
  still : Bool
  opts : ByteArray
  flow : Int
  exts : List Ex
  cut : Bool
  pay : ByteArray
def upB (n m : Int) : Bool := decide (0 ≤ n) && decide (n ≤ m)
def isEx (k : Int) : Bool := k == 0 || k == 43 || k == 60
def isHd (k : Int) : Bool := isEx k || k == 44
def mayB (k : Int) (i : Nat) : Bool := decide (i < 4) && (k != 0 || decide (i = 0))
def exOk (x : Ex) (i : Nat) : Bool := isEx x.kind && mayB x.kind i && decide (x.body.size % 8 = 6) && decide (x.body.size ≤ 2046)
def exsOk : List Ex → Nat → Bool
  | [], _ => true
  | x :: l, i => exOk x i && exsOk l (i + 1)
def rgt4 (P : Pk) : Bool := upB P.id 65535 && decide (P.opts.size % 4 = 0) && decide (P.opts.size ≤ 40) && P.flow == 0 && P.exts.isEmpty && !P.cut
def rgt6 (P : Pk) : Bool := upB P.flow 1048575 && decide (P.opts.size = 0) && !P.still && exsOk P.exts 0 && !isHd P.proto && upB P.id 4294967295 && (P.cut || (P.id == 0 && P.off == 0 && !P.more))
def rgtP (P : Pk) : Bool := validF P.sv P.sb && validF P.dv P.db && (P.sv == P.dv) && upB P.proto 255 && upB P.hop 255 && upB P.cls 255 && upB P.off 65528 && P.off % 8 == 0 && (if P.sv = true then rgt6 P else rgt4 P)
def exLen : List Ex → Nat
  | [] => 0
  | x :: l => 2 + x.body.size + exLen l
def headP (P : Pk) : Nat := if P.sv = true then 40 + exLen P.exts + (if P.cut = true then 8 else 0) else 20 + P.opts.size
def fitP (P : Pk) : Bool := if P.sv = true then decide (headP P + P.pay.size ≤ 65575) else decide (headP P + P.pay.size ≤ 65535)
def bN (b : Bool) (n : Nat) : Nat := if b = true then n else 0
def tailK (P : Pk) : Int := if P.cut = true then 44 else P.proto
def nextK (P : Pk) : List Ex → Int
  | [] => tailK P
  | x :: _ => x.kind
def cuB (P : Pk) : ByteArray := putT P.proto.toNat 1 ++ putT 0 1 ++ putT (P.off.toNat + bN P.more 1) 2 ++ putT P.id.toNat 4
def exB (P : Pk) : List Ex → ByteArray
  | [] => if P.cut = true then cuB P else ByteArray.empty
  | x :: l => putT (nextK P l).toNat 1 ++ putT ((2 + x.body.size) / 8 - 1) 1 ++ x.body ++ exB P l
def hd6 (P : Pk) : ByteArray := putT (1610612736 + P.cls.toNat * 1048576 + P.flow.toNat) 4 ++ putT (headP P + P.pay.size - 40) 2 ++ putT (nextK P P.exts).toNat 1 ++ putT P.hop.toNat 1 ++ bytT P.sv P.sb ++ bytT P.dv P.db
def sixB (P : Pk) : ByteArray := hd6 P ++ exB P P.exts ++ P.pay
def a4 (P : Pk) : ByteArray := putT (64 + headP P / 4) 1 ++ putT P.cls.toNat 1 ++ putT (headP P + P.pay.size) 2 ++ putT P.id.toNat 2 ++ putT (P.off.toNat / 8 + bN P.more 8192 + bN P.still 16384) 2 ++ putT P.hop.toNat 1 ++ putT P.proto.toNat 1
def b4 (P : Pk) : ByteArray := bytT P.sv P.sb ++ bytT P.dv P.db ++ P.opts
def fourB (P : Pk) : ByteArray := a4 P ++ putT (sumT (a4 P ++ b4 P)).toNat 2 ++ b4 P ++ P.pay
def bldT (P : Pk) : ByteArray := if rgtP P && fitP P then (if P.sv = true then sixB P else fourB P) else ByteArray.empty
def bldE (P : Pk) : Int := if rgtP P = true then (if fitP P = true then 0 else 75) else 1
def zeroP : Pk := ⟨false, fun _ => 0, false, fun _ => 0, 0, 0, 0, 0, 0, false, false, ByteArray.empty, 0, [], false, ByteArray.empty⟩
def h6 (b : ByteArray) : Pk := ⟨true, frB (b.extract 8 24), true, frB (b.extract 24 40), 0, txt b 7, ((getN (txt b) 0 4 / 1048576 % 256 : Nat) : Int), 0, 0, false, false, ByteArray.empty, ((getN (txt b) 0 4 % 1048576 : Nat) : Int), [], false, ByteArray.empty⟩
def exEq : List Ex → List Ex → Bool
  | [], [] => true
  | x :: l, y :: m => decide (x.kind = y.kind) && decide (x.body = y.body) && exEq l m
  | _, _ => false
/-- Two packets are the same. -/
def samP (P Q : Pk) : Bool := eqAF P.sv P.sb Q.sv Q.sb && eqAF P.dv P.db Q.dv Q.db && decide (P.proto = Q.proto) && decide (P.hop = Q.hop) && decide (P.cls = Q.cls) && decide (P.id = Q.id) && decide (P.off = Q.off) && (P.more == Q.more) && (P.still == Q.still) && decide (P.opts = Q.opts) && decide (P.flow = Q.flow) && exEq P.exts Q.exts && (P.cut == Q.cut) && decide (P.pay = Q.pay)
theorem exEq_iff : ∀ {l m : List Ex}, exEq l m = true ↔ l = m
  | [], [] => by simp [exEq]
  | [], _ :: _ => by simp [exEq]
  | _ :: _, [] => by simp [exEq]
  | x :: l, y :: m => by
    have ih := @exEq_iff l m
    obtain ⟨k, b⟩ := x
    obtain ⟨k', b'⟩ := y
    simp [exEq, ih]
theorem samP_iff {P Q : Pk} : samP P Q = true ↔ P.sv = Q.sv ∧ (∀ i, i < 16 → P.sb i = Q.sb i) ∧ P.dv = Q.dv ∧ (∀ i, i < 16 → P.db i = Q.db i) ∧ P.proto = Q.proto ∧ P.hop = Q.hop ∧ P.cls = Q.cls ∧ P.id = Q.id ∧ P.off = Q.off ∧ P.more = Q.more ∧ P.still = Q.still ∧ P.opts = Q.opts ∧ P.flow = Q.flow ∧ P.exts = Q.exts ∧ P.cut = Q.cut ∧ P.pay = Q.pay := by
  unfold samP
  simp only [Bool.and_eq_true, eqAF_iff, exEq_iff, decide_eq_true_eq, beq_iff_eq, and_assoc]
theorem upB_iff {n m : Int} : upB n m = true ↔ 0 ≤ n ∧ n ≤ m := by unfold upB; simp
theorem isEx_iff {k : Int} : isEx k = true ↔ k = 0 ∨ k = 43 ∨ k = 60 := by unfold isEx; simp [or_assoc]
theorem mayB_iff {k : Int} {i : Nat} : mayB k i = true ↔ i < 4 ∧ (k ≠ 0 ∨ i = 0) := by unfold mayB; simp
theorem exOk_iff {x : Ex} {i : Nat} : exOk x i = true ↔ (x.kind = 0 ∨ x.kind = 43 ∨ x.kind = 60) ∧ (i < 4 ∧ (x.kind ≠ 0 ∨ i = 0)) ∧ x.body.size % 8 = 6 ∧ x.body.size ≤ 2046 := by
  unfold exOk
  simp only [Bool.and_eq_true, isEx_iff, mayB_iff, decide_eq_true_eq, and_assoc]
theorem rgt4_iff {P : Pk} : rgt4 P = true ↔ (0 ≤ P.id ∧ P.id ≤ 65535) ∧ P.opts.size % 4 = 0 ∧ P.opts.size ≤ 40 ∧ P.flow = 0 ∧ P.exts = [] ∧ P.cut = false := by
  unfold rgt4
  simp only [Bool.and_eq_true, upB_iff, decide_eq_true_eq, beq_iff_eq, List.isEmpty_iff, Bool.not_eq_true', and_assoc]
theorem rgt6_iff {P : Pk} : rgt6 P = true ↔ (0 ≤ P.flow ∧ P.flow ≤ 1048575) ∧ P.opts.size = 0 ∧ P.still = false ∧ exsOk P.exts 0 = true ∧ isHd P.proto = false ∧ (0 ≤ P.id ∧ P.id ≤ 4294967295) ∧ (P.cut = true ∨ (P.id = 0 ∧ P.off = 0 ∧ P.more = false)) := by
  unfold rgt6
  simp only [Bool.and_eq_true, Bool.or_eq_true, upB_iff, decide_eq_true_eq, beq_iff_eq, Bool.not_eq_true', and_assoc]
theorem rgtP_iff {P : Pk} : rgtP P = true ↔ validF P.sv P.sb = true ∧ validF P.dv P.db = true ∧ P.sv = P.dv ∧ (0 ≤ P.proto ∧ P.proto ≤ 255) ∧ (0 ≤ P.hop ∧ P.hop ≤ 255) ∧ (0 ≤ P.cls ∧ P.cls ≤ 255) ∧ (0 ≤ P.off ∧ P.off ≤ 65528) ∧ P.off % 8 = 0 ∧ (if P.sv = true then rgt6 P else rgt4 P) = true := by
  unfold rgtP
  simp only [Bool.and_eq_true, upB_iff, beq_iff_eq, and_assoc]
end Go.Proofs.YtojekoakgpkkdaaDoor

