/-
  Own text. The document's table in memory; Find.
-/
import Derived.Test.YtcpnleanjclfjaaJ2
import Derived.Laws.AppendOwnNone
namespace Go.Proofs.Ytcpnleanjclfjaa
open Go.RowKit Go.Proofs
set_option maxRecDepth 100000
/-- A row of a table: a prefix, and whose it is. -/
structure Rw where
  v : Bool
  b : Nat → Int
  n : Int
  o : Int
def roV (r : Rw) (j : Nat) : Value := if j < 18 then prV r.v r.b r.n j else .int .i64 r.o
theorem roV_one (r : Rw) (j : Nat) : (roV r j).oneCell' = true := by unfold roV; split; exact prV_one _ _ _ _; rfl
structure RwOk (r : Rw) : Prop where
  b : Byts 16 r.b
  n0 : 0 ≤ r.n
  n1 : r.n ≤ 128
/-- A table of the document at block t: m rows; they lie in a row of its own, above B. -/
structure TabD (w : World) (B t : Nat) (x : Value) (m : Nat) (ro : Nat → Rw) : Prop where
  blk : SAt w t 29 1 (fun _ => x)
  row : w.ownsRow B 67 19 x m (rX 19 (fun j => roV (ro j)) m)
  lo : t < B
  hi : B ≤ w.heap.size
theorem TabD.below {w w' : World} {B t m : Nat} {x : Value} {ro : Nat → Rw} (h : TabD w B t x m ro) (hb : Below w.heap.size w w') : TabD w' B t x m ro := ⟨SAt.kept h.blk hb, ownT_kept h.row hb, h.lo, Nat.le_trans h.hi hb.size⟩
/-- Which row's an address is (-1: none), among the first k. -/
def findF (ro : Nat → Rw) (v : Bool) (b : Nat → Int) : Nat → Int
  | 0 => -1
  | k + 1 => if hasF (ro k).v (ro k).b (ro k).n v b = true ∧ (findF ro v b k < 0 ∨ (ro (findF ro v b k).toNat).n < (ro k).n) then (k : Int) else findF ro v b k
/-- What Find tells. -/
def findA (ro : Nat → Rw) (v : Bool) (b : Nat → Int) (m : Nat) : Value := if findF ro v b m < 0 then .tuple #[.int .i64 0, .agg (SC 18 (prV false (fun _ => 0) 0)), .bool false] else .tuple #[.int .i64 (ro (findF ro v b m).toNat).o, .agg (SC 18 (prV (ro (findF ro v b m).toNat).v (ro (findF ro v b m).toNat).b (ro (findF ro v b m).toNat).n)), .bool true]
theorem find_range (ro : Nat → Rw) (v : Bool) (b : Nat → Int) : ∀ k, -1 ≤ findF ro v b k ∧ findF ro v b k < (k : Int) ∧ (findF ro v b k < 0 → findF ro v b k = -1)
  | 0 => by unfold findF; omega
  | k + 1 => by
    have ih := find_range ro v b k
    unfold findF
    split <;> omega
section
variable {a : Act} {o : Oper} {w : World} {x y : Operand}
theorem exec_ftab (ho : o.op = .fieldAddr 29 x 0) {t : Nat} (hx : a.eval x = .pointer (some ⟨t, 0, none⟩)) : (execOp a.eval o).run Try.prog w = .ok (.value (.pointer (some ⟨t, 0, none⟩))) w := by
  have h : (Instr.fieldAt 29 (.pointer (some ⟨t, 0, none⟩)) 0).run Try.prog w = .ok (.pointer (some ⟨t, 0, none⟩)) w := by simp [go_sem]
  unfold execOp
  simp only [ho, hx, Sem.run_bind, h, Result.andThen_ok, Sem.run_pure]
theorem exec_fro {k : Nat} (ho : o.op = .fieldAddr 67 x k) {g f : Nat} (hx : a.eval x = .pointer (some ⟨g, f, none⟩)) (hk : k < 2) : (execOp a.eval o).run Try.prog w = .ok (.value (.pointer (some ⟨g, f + [0, 18].getD k 0, none⟩))) w := by
  have h : (Instr.fieldAt 67 (.pointer (some ⟨g, f, none⟩)) k).run Try.prog w = .ok (.pointer (some ⟨g, f + [0, 18].getD k 0, none⟩)) w := by
    match k, hk with
    | 0, _ => simp [go_sem]
    | 1, _ => simp [go_sem]
  unfold execOp
  simp only [ho, hx, Sem.run_bind, h, Result.andThen_ok, Sem.run_pure]
theorem exec_fpb (ho : o.op = .fieldAddr 37 x 1) {g f : Nat} (hx : a.eval x = .pointer (some ⟨g, f, none⟩)) : (execOp a.eval o).run Try.prog w = .ok (.value (.pointer (some ⟨g, f + 17, none⟩))) w := by
  have h : (Instr.fieldAt 37 (.pointer (some ⟨g, f, none⟩)) 1).run Try.prog w = .ok (.pointer (some ⟨g, f + 17, none⟩)) w := by simp [go_sem]
  unfold execOp
  simp only [ho, hx, Sem.run_bind, h, Result.andThen_ok, Sem.run_pure]
theorem exec_ixR (ho : o.op = .indexAddr 27 x y) {g n c i : Nat} (hx : a.eval x = .slice (some ⟨g, 0, none⟩) n c) (hy : a.eval y = .int .i64 (i : Int)) (hi : i < n) : (execOp a.eval o).run Try.prog w = .ok (.value (.pointer (some ⟨g, 19 * i, none⟩))) w := by
  unfold execOp
  simp only [ho, hx, hy, Sem.run_bind]
  rw [run_indexAt_slice w 27 _ n c .i64 (i : Int) Try.underlying27, if_pos ⟨by omega, by omega⟩, show (sizeOf (Try.prog.elem 27)).run Try.prog w = .ok 19 w by kernel_rfl]
  simp [Addr.add_lit, Nat.mul_comm]
theorem ld_rows {p : Addr} {v : Value} (h : w.cell? p = some v) : (Instr.loadAt 27 (.pointer (some p))).run Try.prog w = .ok v w := by simp [go_sem, h]
theorem ld_int {p : Addr} {n : Int} (h : w.cell? p = some (.int .i64 n)) : (Instr.loadAt 3 (.pointer (some p))).run Try.prog w = .ok (.int .i64 n) w := by simp [go_sem, h]
theorem exec_ldP (ho : o.op = .load 37 x) {g j : Nat} {r : Rw} (hx : a.eval x = .pointer (some ⟨g, 19 * j + 0, none⟩)) (hc : ∀ f, f < 19 → w.cell? ⟨g, 19 * j + f, none⟩ = some (roV r f)) : (execOp a.eval o).run Try.prog w = .ok (.value (.agg (SC 18 (prV r.v r.b r.n)))) w := by
  have h := run_loadAt_addr w ⟨g, 19 * j + 0, none⟩ 37 (SC 18 (prV r.v r.b r.n)).toList _ (fun i u hv => by
    have hj : i < 18 := by have := (List.getElem?_eq_some_iff.1 hv).1; rwa [Array.length_toList, SC_size] at this
    rw [Addr.add_lit, Nat.add_zero, hc i (by omega)]
    unfold roV
    rw [if_pos hj, ← SC_get 18 _ i hj, ← Array.getElem?_toList, hv]) Try.underlying37 rfl (by rw [Array.length_toList, SC_size]; kernel_rfl)
  exact exec_ld ho hx h
theorem ro_n {g j : Nat} {r : Rw} (hc : ∀ f, f < 19 → w.cell? ⟨g, 19 * j + f, none⟩ = some (roV r f)) : w.cell? ⟨g, 19 * j + 0 + 17, none⟩ = some (.int .i64 r.n) := hc 17 (by omega)
theorem ro_o {g j : Nat} {r : Rw} (hc : ∀ f, f < 19 → w.cell? ⟨g, 19 * j + f, none⟩ = some (roV r f)) : w.cell? ⟨g, 19 * j + 18, none⟩ = some (.int .i64 r.o) := hc 18 (by omega)
variable {m n : Int}
theorem exec_lssI (ho : o.op = .binOp .lss 3 x y 3) (hx : a.eval x = .int .i64 m) (hy : a.eval y = .int .i64 n) {b : Bool} (h : decide (m < n) = b) : (execOp a.eval o).run Try.prog w = .ok (.value (.bool b)) w := by subst h; exact exec_bin2 ho hx hy rfl (by simp [go_sem])
theorem exec_gtrI (ho : o.op = .binOp .gtr 3 x y 3) (hx : a.eval x = .int .i64 m) (hy : a.eval y = .int .i64 n) {b : Bool} (h : decide (n < m) = b) : (execOp a.eval o).run Try.prog w = .ok (.value (.bool b)) w := by subst h; exact exec_bin2 ho hx hy rfl (by simp [go_sem])
end
theorem enterHasR (args : Array Value) (w : World) : (callFunc 23 args).run Try.prog w = .ok (.enter 23 args) w := by kernel_rfl
theorem res_tct {fn : Func} {p q r : Tmp} {ty : TypeId} (h : fn.results = #[.tmp p, .cell q ty, .tmp r]) {tmps : Array Value} {w : World} {x z : Value} {g n : Nat} {V : Nat → Value} (hA : IsSt ty n) (hg : SAt w g ty n V) (hp : tmps.getD p undef = x) (hq : tmps.getD q undef = .pointer (some ⟨g, 0, none⟩)) (hr : tmps.getD r undef = z) : (results fn tmps).run Try.prog w = .ok (.tuple #[x, .agg (SC n V), z]) w := by
  obtain ⟨d, h1, h2, h3⟩ := hA
  have hp' : tmps[p]?.getD undef = x := by simpa using hp
  have hq' : tmps[q]?.getD undef = .pointer (some ⟨g, 0, none⟩) := by simpa using hq
  have hr' : tmps[r]?.getD undef = z := by simpa using hr
  have hl := run_loadVar_row (P := Try.prog) w g ty ty (SC n V) (0, 0) _ hg h1 (by cases d <;> first | rfl | exact h2) (by rw [SC_size]; exact h3)
  simp [results, h, hp', hq', hr', asAddr, hl]
set_option maxHeartbeats 16000000 in
theorem rFind_run {w : World} {B t m : Nat} {x : Value} {ro : Nat → Rw} (v : Bool) (b : Nat → Int) (h : TabD w B t x m ro) (hro : ∀ j, j < m → RwOk (ro j)) (hb : Byts 16 b) (hm : m < 1000) : Calls Try.prog 14 #[.pointer (some ⟨t, 0, none⟩), .agg (SC 17 (adV v b))] w fun e w' => e = .returned (findA ro v b m) ∧ Below w.heap.size w w' := by
  have HFS : Hid (∀ k, findF ro v b (k + 1) = if hasF (ro k).v (ro k).b (ro k).n v b = true ∧ (findF ro v b k < 0 ∨ (ro (findF ro v b k).toNat).n < (ro k).n) then (k : Int) else findF ro v b k) := Hid.mk (fun k => rfl)
  have HF0 : Hid (findF ro v b 0 = -1) := Hid.mk rfl
  have HFR := Hid.mk (find_range ro v b)
  have HRO := Hid.mk hro
  have HAN : Hid (findF ro v b m < 0 → findA ro v b m = .tuple #[.int .i64 0, .agg (SC 18 (prV false (fun _ => 0) 0)), .bool false]) := Hid.mk (fun e => by unfold findA; rw [if_pos e])
  have HAY : Hid (∀ at_ : Nat, findF ro v b m = (at_ : Int) → findA ro v b m = .tuple #[.int .i64 (ro at_).o, .agg (SC 18 (prV (ro at_).v (ro at_).b (ro at_).n)), .bool true]) := Hid.mk (fun at_ e => by unfold findA; rw [e, if_neg (by omega), Int.toNat_natCast])
  generalize findA ro v b m = an at *
  obtain ⟨p, cap, hxe, hpos⟩ := ownM_shape h.row
  subst hxe
  generalize findF ro v b = FF at *
  go_enter Try.func14, Try.ntmps14
  go_wp2_with (refine wl_boxO rfl rfl isAddr (by rfl) ?_; intro ga w1 hga qa hB1; refine Hid.out ?_)
  refine Hid.mk ?_
  have h1 := h.below hB1
  have lga := SAt.lt qa
  go_wp2_with (refine wl_alO rfl rfl zeroPfx ?_; intro gz u1 hgz qz hBz; refine Hid.out ?_)
  refine Hid.mk ?_
  have h2 := h1.below hBz
  have qa2 := SAt.kept qa hBz
  have hBa : Below w.heap.size w u1 := hB1.trans (hBz.mono hB1.size)
  have hgzw : w.heap.size ≤ gz := by have := hB1.size; omega
  have HT : Hid (∀ z, Below u1.heap.size u1 z → z.cell? ⟨t, 0, none⟩ = some (.slice p m cap)) := Hid.mk (fun z hz => SAt.at (SAt.kept h2.blk hz) 0 (by omega))
  have HA : Hid (∀ z, Below u1.heap.size u1 z → SAt z ga 35 17 (adV v b)) := Hid.mk (fun z hz => SAt.kept qa2 hz)
  have HZ : Hid (∀ z, Below u1.heap.size u1 z → SAt z gz 37 18 (prV false (fun _ => 0) 0)) := Hid.mk (fun z hz => SAt.kept qz hz)
  have HCC : Hid (∀ g, p = some ⟨g, 0, none⟩ → ∀ z, Below u1.heap.size u1 z → ∀ k, k < m → ∀ f, f < 19 → z.cell? ⟨g, 19 * k + f, none⟩ = some (roV (ro k) f)) := Hid.mk (fun g e z hz k hk f hf => by
    have hr := ownT_kept h2.row hz
    rw [e] at hr
    exact own_at hr hk f hf)
  clear h h1 h2 qa qa2 qz hB1 hBz hga hgz lga
  have hB0 : Below u1.heap.size u1 u1 := Below.refl _ _
  go_wp2_with fail
  go_loopg [7, 8] m (fun gm s7 s8 z => ∃ (k : Nat) (fa : Int), gm = m - k ∧ k ≤ m ∧ s7 = .int .i64 fa ∧ s8 = .int .i64 (k : Int) ∧ Hid (fa = FF k) ∧ Below u1.heap.size u1 z)
  case atStart => exact ⟨0, -1, by omega, by omega, rfl, rfl, Hid.mk HF0.out.symm, hB0⟩
  case round =>
    obtain ⟨k, fa, hgm, hk, rfl, rfl, HFA, hB⟩ := hrel
    clear hB0
    have ct := HT.out wr hB
    by_cases hlt : k < m
    · obtain ⟨g, rfl⟩ := hpos (by omega)
      have hkm : (k : Int) < (m : Int) := by omega
      have hkd : decide ((k : Int) < (m : Int)) = true := decide_eq_true hkm
      have HC := Hid.mk (HCC.out g rfl)
      have hrk := HRO.out k hlt
      obtain ⟨hs, hhs⟩ : ∃ hs, hasF (ro k).v (ro k).b (ro k).n v b = hs := ⟨_, rfl⟩
      have HH : Hid (∀ z, Calls Try.prog 23 #[.agg (SC 18 (prV (ro k).v (ro k).b (ro k).n)), .agg (SC 17 (adV v b))] z fun e w' => e = .returned (.bool hs) ∧ Below z.heap.size z w') := Hid.mk (fun z => by
        have := has_run (ro k).v (ro k).b (ro k).n v b z hrk.n1 hrk.b hb
        rw [hhs] at this
        exact this)
      have HHS := Hid.mk hhs
      clear hhs hrk
      go_wp2_with fail
      refine wp_region3 (Below u1.heap.size u1) wr.heap.size
          ([] : List (Nat × Cont))
          [kv (.pointer (some ⟨t, 0, none⟩)), kv (.pointer (some ⟨t, 0, none⟩)), kv (.pointer (some ⟨t, 0, none⟩)), kv (.slice (some ⟨g, 0, none⟩) m cap), kv (.int .i64 (k : Int)), kv (.pointer (some ⟨g, 19 * k, none⟩)), kv (.pointer (some ⟨g, 19 * k + 0, none⟩)), kv (.agg (SC 18 (prV (ro k).v (ro k).b (ro k).n))), kv (.agg (SC 17 (adV v b))), kv (.bool hs), kv (.bool hs)]
          [.none, .none, .none, .none, .none, .none, .none, .none, .none, .none, .none]
          [some 19, some 20, some 21, some 22, some 23, some 24, some 25, some 26, some 27, some 28, some 9]
          [(0, .pointer (some ⟨t, 0, none⟩)), (3, .pointer (some ⟨ga, 0, none⟩)), (8, .int .i64 (k : Int))]
          [[], [.slot 0], [.slot 1], [.slot 2], [], [.slot 3, .slot 4], [.slot 5], [.slot 6], [], [.slot 7, .slot 8], [.slot 9]]
          [.slot 10] [19, 20, 21, 22, 23, 24, 25, 26, 27, 28, 9]
          rfl (by kernel_rfl) ⟨rfl, rfl, rfl, trivial⟩ (hB.drew) (Nat.le_refl _) trivial trivial (below_Gc7 (by have := hB.size; omega))
          ⟨
            (fun Q aq ww own hS hBg fr kn => .inl ⟨trivial, fun K hK => wp_value (exec_move rfl fr.1) (hK _ _ ⟨Touch.refl _ _, rfl⟩)⟩),
            (fun Q aq ww own hS hBg fr kn => .inl ⟨trivial, fun K hK => wp_value (exec_nilc rfl kn.1) (hK _ _ ⟨Touch.refl _ _, rfl⟩)⟩),
            (fun Q aq ww own hS hBg fr kn => .inl ⟨trivial, fun K hK => wp_value (exec_ftab rfl kn.1) (hK _ _ ⟨Touch.refl _ _, rfl⟩)⟩),
            (fun Q aq ww own hS hBg fr kn => .inl ⟨trivial, fun K hK => wp_value (exec_ld rfl kn.1 (ld_rows (HT.out ww hS))) (hK _ _ ⟨Touch.refl _ _, rfl⟩)⟩),
            (fun Q aq ww own hS hBg fr kn => .inl ⟨trivial, fun K hK => wp_value (exec_move rfl fr.2.2.1) (hK _ _ ⟨Touch.refl _ _, rfl⟩)⟩),
            (fun Q aq ww own hS hBg fr kn => .inl ⟨trivial, fun K hK => wp_value (exec_ixR (i := k) rfl kn.1 kn.2.1 hlt) (hK _ _ ⟨Touch.refl _ _, rfl⟩)⟩),
            (fun Q aq ww own hS hBg fr kn => .inl ⟨trivial, fun K hK => wp_value (exec_fro (k := 0) rfl kn.1 (by decide)) (hK _ _ ⟨Touch.refl _ _, rfl⟩)⟩),
            (fun Q aq ww own hS hBg fr kn => .inl ⟨trivial, fun K hK => wp_value (exec_ldP (j := k) rfl kn.1 (HC.out ww hS k hlt)) (hK _ _ ⟨Touch.refl _ _, rfl⟩)⟩),
            (fun Q aq ww own hS hBg fr kn => .inl ⟨trivial, fun K hK => wp_value (look_st rfl isAddr (HA.out ww hS) fr.2.1) (hK _ _ ⟨Touch.refl _ _, rfl⟩)⟩),
            (fun Q aq ww own hS hBg fr kn => .inl ⟨trivial, fun K hK => stepc enterHasR rfl (args2 kn.1 kn.2.1) (HH.out ww) (fun w' hb => hK _ _ ⟨touch_below hb, rfl⟩)⟩),
            (fun Q aq ww own hS hBg fr kn => .inl ⟨trivial, fun K hK => wp_value (exec_assign rfl kn.1) (hK _ _ ⟨Touch.refl _ _, rfl⟩)⟩),
            trivial⟩ ?_
      intro vs own u5 hB5 hsz kn inj
      have e9 : vs 9 = .bool hs := kn.1
      clear kn inj hsz HH ct
      simp only [putAll, Act.put, List.setIfInBounds_toArray, List.set_cons_zero, List.set_cons_succ, e9]
      clear e9
      cases hs
      · have HF : Hid (fa = FF (k + 1)) := Hid.mk (by rw [HFS.out k, HHS.out, if_neg (fun e => by cases e.1)]; exact HFA.out)
        go_wp2_with fail
        refine wp_region3 (Below u1.heap.size u1) u5.heap.size
            ([] : List (Nat × Cont))
            [kv (.bool false), kv (.bool false), kv (undef), kv (undef), kv (undef), kv (undef), kv (undef), kv (undef), kv (undef), kv (undef), kv (undef), kv (undef), kv (undef), kv (undef), kv (undef), kv (undef), kv (undef), kv (undef), kv (undef), kv (undef), kv (undef), kv (undef), kv (undef), kv (undef), kv (undef), kv (.bool false)]
            [.none, .none, .none, .none, .none, .none, .none, .none, .none, .none, .none, .none, .none, .none, .none, .none, .none, .none, .none, .none, .none, .none, .none, .none, .none, .none]
            [some 29, some 30, some 31, some 32, some 33, some 34, some 35, some 36, some 37, some 38, some 39, some 40, some 41, some 42, some 43, some 44, some 45, some 46, some 47, some 48, some 49, some 50, some 51, some 52, some 53, some 54]
            [(0, .pointer (some ⟨t, 0, none⟩)), (7, .int .i64 fa), (8, .int .i64 (k : Int)), (9, .bool false)]
            [[], [.slot 0], [.slot 1], [.slot 1], [.slot 1], [.slot 4], [.slot 4], [.slot 4], [.slot 4], [.slot 4], [.slot 4], [.slot 4], [.slot 4], [.slot 4], [.slot 4], [.slot 4], [.slot 4], [.slot 4], [.slot 4], [.slot 4], [.slot 4], [.slot 4], [.slot 4], [.slot 4], [.slot 1], [.slot 1]]
            [.slot 25] [29, 30, 31, 32, 33, 34, 35, 36, 37, 38, 39, 40, 41, 42, 43, 44, 45, 46, 47, 48, 49, 50, 51, 52, 53, 54]
            rfl (by kernel_rfl) ⟨rfl, rfl, rfl, rfl, trivial⟩ (hB5.drew) (Nat.le_refl _) trivial trivial (below_Gc7 (by have := hB5.size; omega))
            ⟨
              (fun Q aq ww own hS hBg fr kn => .inl ⟨trivial, fun K hK => wp_value (exec_move rfl fr.2.2.2.1) (hK _ _ ⟨Touch.refl _ _, rfl⟩)⟩),
              (fun Q aq ww own hS hBg fr kn => .inl ⟨trivial, fun K hK => wp_value (exec_move rfl kn.1) (hK _ _ ⟨Touch.refl _ _, rfl⟩)⟩),
              (fun Q aq ww own hS hBg fr kn => .inr ⟨.inl kn.1, ⟨Touch.refl _ _, rfl⟩⟩),
              (fun Q aq ww own hS hBg fr kn => .inr ⟨.inl kn.1, ⟨Touch.refl _ _, rfl⟩⟩),
              (fun Q aq ww own hS hBg fr kn => .inr ⟨.inl kn.1, ⟨Touch.refl _ _, rfl⟩⟩),
              (fun Q aq ww own hS hBg fr kn => .inr ⟨.inr kn.1, ⟨Touch.refl _ _, rfl⟩⟩),
              (fun Q aq ww own hS hBg fr kn => .inr ⟨.inr kn.1, ⟨Touch.refl _ _, rfl⟩⟩),
              (fun Q aq ww own hS hBg fr kn => .inr ⟨.inr kn.1, ⟨Touch.refl _ _, rfl⟩⟩),
              (fun Q aq ww own hS hBg fr kn => .inr ⟨.inr kn.1, ⟨Touch.refl _ _, rfl⟩⟩),
              (fun Q aq ww own hS hBg fr kn => .inr ⟨.inr kn.1, ⟨Touch.refl _ _, rfl⟩⟩),
              (fun Q aq ww own hS hBg fr kn => .inr ⟨.inr kn.1, ⟨Touch.refl _ _, rfl⟩⟩),
              (fun Q aq ww own hS hBg fr kn => .inr ⟨.inr kn.1, ⟨Touch.refl _ _, rfl⟩⟩),
              (fun Q aq ww own hS hBg fr kn => .inr ⟨.inr kn.1, ⟨Touch.refl _ _, rfl⟩⟩),
              (fun Q aq ww own hS hBg fr kn => .inr ⟨.inr kn.1, ⟨Touch.refl _ _, rfl⟩⟩),
              (fun Q aq ww own hS hBg fr kn => .inr ⟨.inr kn.1, ⟨Touch.refl _ _, rfl⟩⟩),
              (fun Q aq ww own hS hBg fr kn => .inr ⟨.inr kn.1, ⟨Touch.refl _ _, rfl⟩⟩),
              (fun Q aq ww own hS hBg fr kn => .inr ⟨.inr kn.1, ⟨Touch.refl _ _, rfl⟩⟩),
              (fun Q aq ww own hS hBg fr kn => .inr ⟨.inr kn.1, ⟨Touch.refl _ _, rfl⟩⟩),
              (fun Q aq ww own hS hBg fr kn => .inr ⟨.inr kn.1, ⟨Touch.refl _ _, rfl⟩⟩),
              (fun Q aq ww own hS hBg fr kn => .inr ⟨.inr kn.1, ⟨Touch.refl _ _, rfl⟩⟩),
              (fun Q aq ww own hS hBg fr kn => .inr ⟨.inr kn.1, ⟨Touch.refl _ _, rfl⟩⟩),
              (fun Q aq ww own hS hBg fr kn => .inr ⟨.inr kn.1, ⟨Touch.refl _ _, rfl⟩⟩),
              (fun Q aq ww own hS hBg fr kn => .inr ⟨.inr kn.1, ⟨Touch.refl _ _, rfl⟩⟩),
              (fun Q aq ww own hS hBg fr kn => .inr ⟨.inr kn.1, ⟨Touch.refl _ _, rfl⟩⟩),
              (fun Q aq ww own hS hBg fr kn => .inr ⟨.inl kn.1, ⟨Touch.refl _ _, rfl⟩⟩),
              (fun Q aq ww own hS hBg fr kn => .inl ⟨trivial, fun K hK => wp_value (exec_pickF (v := .bool false) rfl kn.1 rfl) (hK _ _ ⟨Touch.refl _ _, rfl⟩)⟩),
              trivial⟩ ?_
        intro vs own u6 hB6 hsz kn inj
        have e54 : vs 54 = .bool false := kn.1
        clear kn inj hsz
        simp only [putAll, Act.put, List.setIfInBounds_toArray, List.set_cons_zero, List.set_cons_succ, e54]
        clear e54
        go_wp2_with fail
        go_roundg (m - (k + 1))
        case rel => exact ⟨k + 1, fa, rfl, by omega, rfl, by go_num, HF, hB6⟩
        case measure => omega
      · by_cases hn : fa < 0
        · have hneg : decide (fa < 0) = true := decide_eq_true hn
          have HF : Hid ((k : Int) = FF (k + 1)) := Hid.mk (by rw [HFS.out k, HHS.out, if_pos ⟨rfl, .inl (by rw [← HFA.out]; exact hn)⟩])
          go_wp2_with fail
          refine wp_region3 (Below u1.heap.size u1) u5.heap.size
              ([] : List (Nat × Cont))
              [kv (.bool true), kv (.bool true), kv (.int .i64 fa), kv (.bool true), kv (.bool true), kv (undef), kv (undef), kv (undef), kv (undef), kv (undef), kv (undef), kv (undef), kv (undef), kv (undef), kv (undef), kv (undef), kv (undef), kv (undef), kv (undef), kv (undef), kv (undef), kv (undef), kv (undef), kv (undef), kv (.bool true), kv (.bool true)]
              [.none, .none, .none, .none, .none, .none, .none, .none, .none, .none, .none, .none, .none, .none, .none, .none, .none, .none, .none, .none, .none, .none, .none, .none, .none, .none]
              [some 29, some 30, some 31, some 32, some 33, some 34, some 35, some 36, some 37, some 38, some 39, some 40, some 41, some 42, some 43, some 44, some 45, some 46, some 47, some 48, some 49, some 50, some 51, some 52, some 53, some 54]
              [(0, .pointer (some ⟨t, 0, none⟩)), (7, .int .i64 fa), (8, .int .i64 (k : Int)), (9, .bool true)]
              [[], [.slot 0], [.slot 1], [.slot 1, .slot 2], [.slot 1, .slot 3], [.slot 4], [.slot 4], [.slot 4], [.slot 4], [.slot 4], [.slot 4], [.slot 4], [.slot 4], [.slot 4], [.slot 4], [.slot 4], [.slot 4], [.slot 4], [.slot 4], [.slot 4], [.slot 4], [.slot 4], [.slot 4], [.slot 4], [.slot 1, .slot 4], [.slot 1, .slot 24]]
              [.slot 25] [29, 30, 31, 32, 33, 34, 35, 36, 37, 38, 39, 40, 41, 42, 43, 44, 45, 46, 47, 48, 49, 50, 51, 52, 53, 54]
              rfl (by kernel_rfl) ⟨rfl, rfl, rfl, rfl, trivial⟩ (hB5.drew) (Nat.le_refl _) trivial trivial (below_Gc7 (by have := hB5.size; omega))
              ⟨
                (fun Q aq ww own hS hBg fr kn => .inl ⟨trivial, fun K hK => wp_value (exec_move rfl fr.2.2.2.1) (hK _ _ ⟨Touch.refl _ _, rfl⟩)⟩),
                (fun Q aq ww own hS hBg fr kn => .inl ⟨trivial, fun K hK => wp_value (exec_move rfl kn.1) (hK _ _ ⟨Touch.refl _ _, rfl⟩)⟩),
                (fun Q aq ww own hS hBg fr kn => .inl ⟨kn.1, fun K hK => wp_value (exec_move rfl fr.2.1) (hK _ _ ⟨Touch.refl _ _, rfl⟩)⟩),
                (fun Q aq ww own hS hBg fr kn => .inl ⟨kn.1, fun K hK => wp_value (exec_lssI rfl kn.2.1 rfl hneg) (hK _ _ ⟨Touch.refl _ _, rfl⟩)⟩),
                (fun Q aq ww own hS hBg fr kn => .inl ⟨kn.1, fun K hK => wp_value (exec_move rfl kn.2.1) (hK _ _ ⟨Touch.refl _ _, rfl⟩)⟩),
                (fun Q aq ww own hS hBg fr kn => .inr ⟨.inl kn.1, ⟨Touch.refl _ _, rfl⟩⟩),
                (fun Q aq ww own hS hBg fr kn => .inr ⟨.inl kn.1, ⟨Touch.refl _ _, rfl⟩⟩),
                (fun Q aq ww own hS hBg fr kn => .inr ⟨.inl kn.1, ⟨Touch.refl _ _, rfl⟩⟩),
                (fun Q aq ww own hS hBg fr kn => .inr ⟨.inl kn.1, ⟨Touch.refl _ _, rfl⟩⟩),
                (fun Q aq ww own hS hBg fr kn => .inr ⟨.inl kn.1, ⟨Touch.refl _ _, rfl⟩⟩),
                (fun Q aq ww own hS hBg fr kn => .inr ⟨.inl kn.1, ⟨Touch.refl _ _, rfl⟩⟩),
                (fun Q aq ww own hS hBg fr kn => .inr ⟨.inl kn.1, ⟨Touch.refl _ _, rfl⟩⟩),
                (fun Q aq ww own hS hBg fr kn => .inr ⟨.inl kn.1, ⟨Touch.refl _ _, rfl⟩⟩),
                (fun Q aq ww own hS hBg fr kn => .inr ⟨.inl kn.1, ⟨Touch.refl _ _, rfl⟩⟩),
                (fun Q aq ww own hS hBg fr kn => .inr ⟨.inl kn.1, ⟨Touch.refl _ _, rfl⟩⟩),
                (fun Q aq ww own hS hBg fr kn => .inr ⟨.inl kn.1, ⟨Touch.refl _ _, rfl⟩⟩),
                (fun Q aq ww own hS hBg fr kn => .inr ⟨.inl kn.1, ⟨Touch.refl _ _, rfl⟩⟩),
                (fun Q aq ww own hS hBg fr kn => .inr ⟨.inl kn.1, ⟨Touch.refl _ _, rfl⟩⟩),
                (fun Q aq ww own hS hBg fr kn => .inr ⟨.inl kn.1, ⟨Touch.refl _ _, rfl⟩⟩),
                (fun Q aq ww own hS hBg fr kn => .inr ⟨.inl kn.1, ⟨Touch.refl _ _, rfl⟩⟩),
                (fun Q aq ww own hS hBg fr kn => .inr ⟨.inl kn.1, ⟨Touch.refl _ _, rfl⟩⟩),
                (fun Q aq ww own hS hBg fr kn => .inr ⟨.inl kn.1, ⟨Touch.refl _ _, rfl⟩⟩),
                (fun Q aq ww own hS hBg fr kn => .inr ⟨.inl kn.1, ⟨Touch.refl _ _, rfl⟩⟩),
                (fun Q aq ww own hS hBg fr kn => .inr ⟨.inl kn.1, ⟨Touch.refl _ _, rfl⟩⟩),
                (fun Q aq ww own hS hBg fr kn => .inl ⟨kn.1, fun K hK => wp_value (exec_pick (v := .bool true) rfl kn.2.1 rfl) (hK _ _ ⟨Touch.refl _ _, rfl⟩)⟩),
                (fun Q aq ww own hS hBg fr kn => .inl ⟨trivial, fun K hK => wp_value (exec_pick (v := .bool true) rfl kn.1 kn.2.1) (hK _ _ ⟨Touch.refl _ _, rfl⟩)⟩),
                trivial⟩ ?_
          intro vs own u6 hB6 hsz kn inj
          have e54 : vs 54 = .bool true := kn.1
          clear kn inj hsz
          simp only [putAll, Act.put, List.setIfInBounds_toArray, List.set_cons_zero, List.set_cons_succ, e54]
          clear e54
          go_wp2_with fail
          go_roundg (m - (k + 1))
          case rel => exact ⟨k + 1, (k : Int), rfl, by omega, rfl, by go_num, HF, hB6⟩
          case measure => omega
        · obtain ⟨at_, rfl⟩ : ∃ at_ : Nat, fa = (at_ : Int) := ⟨fa.toNat, by omega⟩
          have hneg : decide ((at_ : Int) < 0) = false := decide_eq_false hn
          have hat : at_ < m := by have := (HFR.out k).2.1; rw [← HFA.out] at this; omega
          have HTN : Hid ((FF k).toNat = at_) := Hid.mk (by rw [← HFA.out]; simp)
          by_cases hg2 : (ro at_).n < (ro k).n
          · have hgt : decide ((ro at_).n < (ro k).n) = true := decide_eq_true hg2
            have HF : Hid ((k : Int) = FF (k + 1)) := Hid.mk (by rw [HFS.out k, HHS.out, HTN.out, if_pos ⟨rfl, .inr hg2⟩])
            go_wp2_with fail
            refine wp_region3 (Below u1.heap.size u1) u5.heap.size
                ([] : List (Nat × Cont))
                [kv (.bool true), kv (.bool true), kv (.int .i64 (at_ : Int)), kv (.bool false), kv (.bool false), kv (.pointer (some ⟨t, 0, none⟩)), kv (.pointer (some ⟨t, 0, none⟩)), kv (.pointer (some ⟨t, 0, none⟩)), kv (.slice (some ⟨g, 0, none⟩) m cap), kv (.int .i64 (k : Int)), kv (.pointer (some ⟨g, 19 * k, none⟩)), kv (.pointer (some ⟨g, 19 * k + 0, none⟩)), kv (.pointer (some ⟨g, 19 * k + 0 + 17, none⟩)), kv (.int .i64 (ro k).n), kv (.pointer (some ⟨t, 0, none⟩)), kv (.pointer (some ⟨t, 0, none⟩)), kv (.pointer (some ⟨t, 0, none⟩)), kv (.slice (some ⟨g, 0, none⟩) m cap), kv (.int .i64 (at_ : Int)), kv (.pointer (some ⟨g, 19 * at_, none⟩)), kv (.pointer (some ⟨g, 19 * at_ + 0, none⟩)), kv (.pointer (some ⟨g, 19 * at_ + 0 + 17, none⟩)), kv (.int .i64 (ro at_).n), kv (.bool true), kv (.bool true), kv (.bool true)]
                [.none, .none, .none, .none, .none, .none, .none, .none, .none, .none, .none, .none, .none, .none, .none, .none, .none, .none, .none, .none, .none, .none, .none, .none, .none, .none]
                [some 29, some 30, some 31, some 32, some 33, some 34, some 35, some 36, some 37, some 38, some 39, some 40, some 41, some 42, some 43, some 44, some 45, some 46, some 47, some 48, some 49, some 50, some 51, some 52, some 53, some 54]
                [(0, .pointer (some ⟨t, 0, none⟩)), (7, .int .i64 (at_ : Int)), (8, .int .i64 (k : Int)), (9, .bool true)]
                [[], [.slot 0], [.slot 1], [.slot 1, .slot 2], [.slot 1, .slot 3], [.slot 4], [.slot 4, .slot 5], [.slot 4, .slot 6], [.slot 4, .slot 7], [.slot 4], [.slot 4, .slot 8, .slot 9], [.slot 4, .slot 10], [.slot 4, .slot 11], [.slot 4, .slot 12], [.slot 4], [.slot 4, .slot 14], [.slot 4, .slot 15], [.slot 4, .slot 16], [.slot 4], [.slot 4, .slot 17, .slot 18], [.slot 4, .slot 19], [.slot 4, .slot 20], [.slot 4, .slot 21], [.slot 4, .slot 13, .slot 22], [.slot 1, .slot 4, .slot 23], [.slot 1, .slot 24]]
                [.slot 25] [29, 30, 31, 32, 33, 34, 35, 36, 37, 38, 39, 40, 41, 42, 43, 44, 45, 46, 47, 48, 49, 50, 51, 52, 53, 54]
                rfl (by kernel_rfl) ⟨rfl, rfl, rfl, rfl, trivial⟩ (hB5.drew) (Nat.le_refl _) trivial trivial (below_Gc7 (by have := hB5.size; omega))
                ⟨
                  (fun Q aq ww own hS hBg fr kn => .inl ⟨trivial, fun K hK => wp_value (exec_move rfl fr.2.2.2.1) (hK _ _ ⟨Touch.refl _ _, rfl⟩)⟩),
                  (fun Q aq ww own hS hBg fr kn => .inl ⟨trivial, fun K hK => wp_value (exec_move rfl kn.1) (hK _ _ ⟨Touch.refl _ _, rfl⟩)⟩),
                  (fun Q aq ww own hS hBg fr kn => .inl ⟨kn.1, fun K hK => wp_value (exec_move rfl fr.2.1) (hK _ _ ⟨Touch.refl _ _, rfl⟩)⟩),
                  (fun Q aq ww own hS hBg fr kn => .inl ⟨kn.1, fun K hK => wp_value (exec_lssI rfl kn.2.1 rfl hneg) (hK _ _ ⟨Touch.refl _ _, rfl⟩)⟩),
                  (fun Q aq ww own hS hBg fr kn => .inl ⟨kn.1, fun K hK => wp_value (exec_move rfl kn.2.1) (hK _ _ ⟨Touch.refl _ _, rfl⟩)⟩),
                  (fun Q aq ww own hS hBg fr kn => .inl ⟨kn.1, fun K hK => wp_value (exec_move rfl fr.1) (hK _ _ ⟨Touch.refl _ _, rfl⟩)⟩),
                  (fun Q aq ww own hS hBg fr kn => .inl ⟨kn.1, fun K hK => wp_value (exec_nilc rfl kn.2.1) (hK _ _ ⟨Touch.refl _ _, rfl⟩)⟩),
                  (fun Q aq ww own hS hBg fr kn => .inl ⟨kn.1, fun K hK => wp_value (exec_ftab rfl kn.2.1) (hK _ _ ⟨Touch.refl _ _, rfl⟩)⟩),
                  (fun Q aq ww own hS hBg fr kn => .inl ⟨kn.1, fun K hK => wp_value (exec_ld rfl kn.2.1 (ld_rows (HT.out ww hS))) (hK _ _ ⟨Touch.refl _ _, rfl⟩)⟩),
                  (fun Q aq ww own hS hBg fr kn => .inl ⟨kn.1, fun K hK => wp_value (exec_move rfl fr.2.2.1) (hK _ _ ⟨Touch.refl _ _, rfl⟩)⟩),
                  (fun Q aq ww own hS hBg fr kn => .inl ⟨kn.1, fun K hK => wp_value (exec_ixR (i := k) rfl kn.2.1 kn.2.2.1 hlt) (hK _ _ ⟨Touch.refl _ _, rfl⟩)⟩),
                  (fun Q aq ww own hS hBg fr kn => .inl ⟨kn.1, fun K hK => wp_value (exec_fro (k := 0) rfl kn.2.1 (by decide)) (hK _ _ ⟨Touch.refl _ _, rfl⟩)⟩),
                  (fun Q aq ww own hS hBg fr kn => .inl ⟨kn.1, fun K hK => wp_value (exec_fpb rfl kn.2.1) (hK _ _ ⟨Touch.refl _ _, rfl⟩)⟩),
                  (fun Q aq ww own hS hBg fr kn => .inl ⟨kn.1, fun K hK => wp_value (exec_ld rfl kn.2.1 (ld_int (ro_n (HC.out ww hS k hlt)))) (hK _ _ ⟨Touch.refl _ _, rfl⟩)⟩),
                  (fun Q aq ww own hS hBg fr kn => .inl ⟨kn.1, fun K hK => wp_value (exec_move rfl fr.1) (hK _ _ ⟨Touch.refl _ _, rfl⟩)⟩),
                  (fun Q aq ww own hS hBg fr kn => .inl ⟨kn.1, fun K hK => wp_value (exec_nilc rfl kn.2.1) (hK _ _ ⟨Touch.refl _ _, rfl⟩)⟩),
                  (fun Q aq ww own hS hBg fr kn => .inl ⟨kn.1, fun K hK => wp_value (exec_ftab rfl kn.2.1) (hK _ _ ⟨Touch.refl _ _, rfl⟩)⟩),
                  (fun Q aq ww own hS hBg fr kn => .inl ⟨kn.1, fun K hK => wp_value (exec_ld rfl kn.2.1 (ld_rows (HT.out ww hS))) (hK _ _ ⟨Touch.refl _ _, rfl⟩)⟩),
                  (fun Q aq ww own hS hBg fr kn => .inl ⟨kn.1, fun K hK => wp_value (exec_move rfl fr.2.1) (hK _ _ ⟨Touch.refl _ _, rfl⟩)⟩),
                  (fun Q aq ww own hS hBg fr kn => .inl ⟨kn.1, fun K hK => wp_value (exec_ixR (i := at_) rfl kn.2.1 kn.2.2.1 hat) (hK _ _ ⟨Touch.refl _ _, rfl⟩)⟩),
                  (fun Q aq ww own hS hBg fr kn => .inl ⟨kn.1, fun K hK => wp_value (exec_fro (k := 0) rfl kn.2.1 (by decide)) (hK _ _ ⟨Touch.refl _ _, rfl⟩)⟩),
                  (fun Q aq ww own hS hBg fr kn => .inl ⟨kn.1, fun K hK => wp_value (exec_fpb rfl kn.2.1) (hK _ _ ⟨Touch.refl _ _, rfl⟩)⟩),
                  (fun Q aq ww own hS hBg fr kn => .inl ⟨kn.1, fun K hK => wp_value (exec_ld rfl kn.2.1 (ld_int (ro_n (HC.out ww hS at_ hat)))) (hK _ _ ⟨Touch.refl _ _, rfl⟩)⟩),
                  (fun Q aq ww own hS hBg fr kn => .inl ⟨kn.1, fun K hK => wp_value (exec_gtrI rfl kn.2.1 kn.2.2.1 hgt) (hK _ _ ⟨Touch.refl _ _, rfl⟩)⟩),
                  (fun Q aq ww own hS hBg fr kn => .inl ⟨kn.1, fun K hK => wp_value (exec_pickF (v := .bool true) rfl kn.2.1 kn.2.2.1) (hK _ _ ⟨Touch.refl _ _, rfl⟩)⟩),
                  (fun Q aq ww own hS hBg fr kn => .inl ⟨trivial, fun K hK => wp_value (exec_pick (v := .bool true) rfl kn.1 kn.2.1) (hK _ _ ⟨Touch.refl _ _, rfl⟩)⟩),
                  trivial⟩ ?_
            intro vs own u6 hB6 hsz kn inj
            have e54 : vs 54 = .bool true := kn.1
            clear kn inj hsz
            simp only [putAll, Act.put, List.setIfInBounds_toArray, List.set_cons_zero, List.set_cons_succ, e54]
            clear e54
            go_wp2_with fail
            go_roundg (m - (k + 1))
            case rel => exact ⟨k + 1, (k : Int), rfl, by omega, rfl, by go_num, HF, hB6⟩
            case measure => omega
          · have hgt : decide ((ro at_).n < (ro k).n) = false := decide_eq_false hg2
            have HF : Hid ((at_ : Int) = FF (k + 1)) := Hid.mk (by rw [HFS.out k, HHS.out, HTN.out, if_neg (fun e => e.2.elim (fun e => hn (by rw [HFA.out]; exact e)) hg2)]; exact HFA.out)
            go_wp2_with fail
            refine wp_region3 (Below u1.heap.size u1) u5.heap.size
                ([] : List (Nat × Cont))
                [kv (.bool true), kv (.bool true), kv (.int .i64 (at_ : Int)), kv (.bool false), kv (.bool false), kv (.pointer (some ⟨t, 0, none⟩)), kv (.pointer (some ⟨t, 0, none⟩)), kv (.pointer (some ⟨t, 0, none⟩)), kv (.slice (some ⟨g, 0, none⟩) m cap), kv (.int .i64 (k : Int)), kv (.pointer (some ⟨g, 19 * k, none⟩)), kv (.pointer (some ⟨g, 19 * k + 0, none⟩)), kv (.pointer (some ⟨g, 19 * k + 0 + 17, none⟩)), kv (.int .i64 (ro k).n), kv (.pointer (some ⟨t, 0, none⟩)), kv (.pointer (some ⟨t, 0, none⟩)), kv (.pointer (some ⟨t, 0, none⟩)), kv (.slice (some ⟨g, 0, none⟩) m cap), kv (.int .i64 (at_ : Int)), kv (.pointer (some ⟨g, 19 * at_, none⟩)), kv (.pointer (some ⟨g, 19 * at_ + 0, none⟩)), kv (.pointer (some ⟨g, 19 * at_ + 0 + 17, none⟩)), kv (.int .i64 (ro at_).n), kv (.bool false), kv (.bool false), kv (.bool false)]
                [.none, .none, .none, .none, .none, .none, .none, .none, .none, .none, .none, .none, .none, .none, .none, .none, .none, .none, .none, .none, .none, .none, .none, .none, .none, .none]
                [some 29, some 30, some 31, some 32, some 33, some 34, some 35, some 36, some 37, some 38, some 39, some 40, some 41, some 42, some 43, some 44, some 45, some 46, some 47, some 48, some 49, some 50, some 51, some 52, some 53, some 54]
                [(0, .pointer (some ⟨t, 0, none⟩)), (7, .int .i64 (at_ : Int)), (8, .int .i64 (k : Int)), (9, .bool true)]
                [[], [.slot 0], [.slot 1], [.slot 1, .slot 2], [.slot 1, .slot 3], [.slot 4], [.slot 4, .slot 5], [.slot 4, .slot 6], [.slot 4, .slot 7], [.slot 4], [.slot 4, .slot 8, .slot 9], [.slot 4, .slot 10], [.slot 4, .slot 11], [.slot 4, .slot 12], [.slot 4], [.slot 4, .slot 14], [.slot 4, .slot 15], [.slot 4, .slot 16], [.slot 4], [.slot 4, .slot 17, .slot 18], [.slot 4, .slot 19], [.slot 4, .slot 20], [.slot 4, .slot 21], [.slot 4, .slot 13, .slot 22], [.slot 1, .slot 4, .slot 23], [.slot 1, .slot 24]]
                [.slot 25] [29, 30, 31, 32, 33, 34, 35, 36, 37, 38, 39, 40, 41, 42, 43, 44, 45, 46, 47, 48, 49, 50, 51, 52, 53, 54]
                rfl (by kernel_rfl) ⟨rfl, rfl, rfl, rfl, trivial⟩ (hB5.drew) (Nat.le_refl _) trivial trivial (below_Gc7 (by have := hB5.size; omega))
                ⟨
                  (fun Q aq ww own hS hBg fr kn => .inl ⟨trivial, fun K hK => wp_value (exec_move rfl fr.2.2.2.1) (hK _ _ ⟨Touch.refl _ _, rfl⟩)⟩),
                  (fun Q aq ww own hS hBg fr kn => .inl ⟨trivial, fun K hK => wp_value (exec_move rfl kn.1) (hK _ _ ⟨Touch.refl _ _, rfl⟩)⟩),
                  (fun Q aq ww own hS hBg fr kn => .inl ⟨kn.1, fun K hK => wp_value (exec_move rfl fr.2.1) (hK _ _ ⟨Touch.refl _ _, rfl⟩)⟩),
                  (fun Q aq ww own hS hBg fr kn => .inl ⟨kn.1, fun K hK => wp_value (exec_lssI rfl kn.2.1 rfl hneg) (hK _ _ ⟨Touch.refl _ _, rfl⟩)⟩),
                  (fun Q aq ww own hS hBg fr kn => .inl ⟨kn.1, fun K hK => wp_value (exec_move rfl kn.2.1) (hK _ _ ⟨Touch.refl _ _, rfl⟩)⟩),
                  (fun Q aq ww own hS hBg fr kn => .inl ⟨kn.1, fun K hK => wp_value (exec_move rfl fr.1) (hK _ _ ⟨Touch.refl _ _, rfl⟩)⟩),
                  (fun Q aq ww own hS hBg fr kn => .inl ⟨kn.1, fun K hK => wp_value (exec_nilc rfl kn.2.1) (hK _ _ ⟨Touch.refl _ _, rfl⟩)⟩),
                  (fun Q aq ww own hS hBg fr kn => .inl ⟨kn.1, fun K hK => wp_value (exec_ftab rfl kn.2.1) (hK _ _ ⟨Touch.refl _ _, rfl⟩)⟩),
                  (fun Q aq ww own hS hBg fr kn => .inl ⟨kn.1, fun K hK => wp_value (exec_ld rfl kn.2.1 (ld_rows (HT.out ww hS))) (hK _ _ ⟨Touch.refl _ _, rfl⟩)⟩),
                  (fun Q aq ww own hS hBg fr kn => .inl ⟨kn.1, fun K hK => wp_value (exec_move rfl fr.2.2.1) (hK _ _ ⟨Touch.refl _ _, rfl⟩)⟩),
                  (fun Q aq ww own hS hBg fr kn => .inl ⟨kn.1, fun K hK => wp_value (exec_ixR (i := k) rfl kn.2.1 kn.2.2.1 hlt) (hK _ _ ⟨Touch.refl _ _, rfl⟩)⟩),
                  (fun Q aq ww own hS hBg fr kn => .inl ⟨kn.1, fun K hK => wp_value (exec_fro (k := 0) rfl kn.2.1 (by decide)) (hK _ _ ⟨Touch.refl _ _, rfl⟩)⟩),
                  (fun Q aq ww own hS hBg fr kn => .inl ⟨kn.1, fun K hK => wp_value (exec_fpb rfl kn.2.1) (hK _ _ ⟨Touch.refl _ _, rfl⟩)⟩),
                  (fun Q aq ww own hS hBg fr kn => .inl ⟨kn.1, fun K hK => wp_value (exec_ld rfl kn.2.1 (ld_int (ro_n (HC.out ww hS k hlt)))) (hK _ _ ⟨Touch.refl _ _, rfl⟩)⟩),
                  (fun Q aq ww own hS hBg fr kn => .inl ⟨kn.1, fun K hK => wp_value (exec_move rfl fr.1) (hK _ _ ⟨Touch.refl _ _, rfl⟩)⟩),
                  (fun Q aq ww own hS hBg fr kn => .inl ⟨kn.1, fun K hK => wp_value (exec_nilc rfl kn.2.1) (hK _ _ ⟨Touch.refl _ _, rfl⟩)⟩),
                  (fun Q aq ww own hS hBg fr kn => .inl ⟨kn.1, fun K hK => wp_value (exec_ftab rfl kn.2.1) (hK _ _ ⟨Touch.refl _ _, rfl⟩)⟩),
                  (fun Q aq ww own hS hBg fr kn => .inl ⟨kn.1, fun K hK => wp_value (exec_ld rfl kn.2.1 (ld_rows (HT.out ww hS))) (hK _ _ ⟨Touch.refl _ _, rfl⟩)⟩),
                  (fun Q aq ww own hS hBg fr kn => .inl ⟨kn.1, fun K hK => wp_value (exec_move rfl fr.2.1) (hK _ _ ⟨Touch.refl _ _, rfl⟩)⟩),
                  (fun Q aq ww own hS hBg fr kn => .inl ⟨kn.1, fun K hK => wp_value (exec_ixR (i := at_) rfl kn.2.1 kn.2.2.1 hat) (hK _ _ ⟨Touch.refl _ _, rfl⟩)⟩),
                  (fun Q aq ww own hS hBg fr kn => .inl ⟨kn.1, fun K hK => wp_value (exec_fro (k := 0) rfl kn.2.1 (by decide)) (hK _ _ ⟨Touch.refl _ _, rfl⟩)⟩),
                  (fun Q aq ww own hS hBg fr kn => .inl ⟨kn.1, fun K hK => wp_value (exec_fpb rfl kn.2.1) (hK _ _ ⟨Touch.refl _ _, rfl⟩)⟩),
                  (fun Q aq ww own hS hBg fr kn => .inl ⟨kn.1, fun K hK => wp_value (exec_ld rfl kn.2.1 (ld_int (ro_n (HC.out ww hS at_ hat)))) (hK _ _ ⟨Touch.refl _ _, rfl⟩)⟩),
                  (fun Q aq ww own hS hBg fr kn => .inl ⟨kn.1, fun K hK => wp_value (exec_gtrI rfl kn.2.1 kn.2.2.1 hgt) (hK _ _ ⟨Touch.refl _ _, rfl⟩)⟩),
                  (fun Q aq ww own hS hBg fr kn => .inl ⟨kn.1, fun K hK => wp_value (exec_pickF (v := .bool false) rfl kn.2.1 kn.2.2.1) (hK _ _ ⟨Touch.refl _ _, rfl⟩)⟩),
                  (fun Q aq ww own hS hBg fr kn => .inl ⟨trivial, fun K hK => wp_value (exec_pick (v := .bool false) rfl kn.1 kn.2.1) (hK _ _ ⟨Touch.refl _ _, rfl⟩)⟩),
                  trivial⟩ ?_
            intro vs own u6 hB6 hsz kn inj
            have e54 : vs 54 = .bool false := kn.1
            clear kn inj hsz
            simp only [putAll, Act.put, List.setIfInBounds_toArray, List.set_cons_zero, List.set_cons_succ, e54]
            clear e54
            go_wp2_with fail
            go_roundg (m - (k + 1))
            case rel => exact ⟨k + 1, (at_ : Int), rfl, by omega, rfl, by go_num, HF, hB6⟩
            case measure => omega
    · obtain rfl : k = m := by omega
      have hkd : decide ((k : Int) < (k : Int)) = false := decide_eq_false (by omega)
      by_cases hn : fa < 0
      · have hneg : decide (fa < 0) = true := decide_eq_true hn
        have HE := Hid.mk (HAN.out (by rw [← HFA.out]; exact hn))
        have qz := HZ.out wr hB
        go_wp2_with (first | (refine wl_value rfl (exec_px0 rfl) ?_) | (refine st_stO rfl rfl isPfx (prV_one _ _ _) qz (by rfl) (by rfl) ?_; intro w8 q8 o8; refine Hid.out ?_))
        refine Hid.mk ?_
        have hBr : Below w.heap.size w w8 := (hBa.trans (hB.mono hBa.size)).trans (o8.below hgzw)
        go_wp2_with fail
        exact bodyPost_ret (res_tct rfl isPfx q8 (by rfl) (by rfl) (by rfl)) rfl ⟨by rw [HE.out]; rfl, hBr⟩
      · obtain ⟨at_, rfl⟩ : ∃ at_ : Nat, fa = (at_ : Int) := ⟨fa.toNat, by omega⟩
        have hneg : decide ((at_ : Int) < 0) = false := decide_eq_false hn
        have hat : at_ < k := by have := (HFR.out k).2.1; rw [← HFA.out] at this; omega
        obtain ⟨g, rfl⟩ := hpos (by omega)
        have HC := Hid.mk (HCC.out g rfl)
        have HB1 := Hid.mk hB
        have HE := Hid.mk (HAY.out at_ HFA.out.symm)
        go_wp2_with fail
        refine wp_region_cut 17 rfl (by kernel_rfl) (any_steps (Below wr.heap.size wr) (fun v v' => Below v.heap.size v v') (fun i v v0 => match i with | 0 => v = .pointer (some ⟨t, 0, none⟩) | 1 => v = .pointer (some ⟨t, 0, none⟩) | 2 => v = .pointer (some ⟨t, 0, none⟩) | 3 => v = .slice (some ⟨g, 0, none⟩) k cap | 4 => v = .int .i64 (at_ : Int) | 5 => v = .pointer (some ⟨g, 19 * at_, none⟩) | 6 => v = .pointer (some ⟨g, 19 * at_ + 18, none⟩) | 7 => v = .int .i64 (ro at_).o | 8 => v = .pointer (some ⟨t, 0, none⟩) | 9 => v = .pointer (some ⟨t, 0, none⟩) | 10 => v = .pointer (some ⟨t, 0, none⟩) | 11 => v = .slice (some ⟨g, 0, none⟩) k cap | 12 => v = .int .i64 (at_ : Int) | 13 => v = .pointer (some ⟨g, 19 * at_, none⟩) | 14 => v = .pointer (some ⟨g, 19 * at_ + 0, none⟩) | 15 => v = .agg (SC 18 (prV (ro at_).v (ro at_).b (ro at_).n)) | 16 => v = .int .i64 (ro at_).o | _ => True)
            [59, 60, 61, 62, 63, 64, 65, 66, 67, 68, 69, 70, 71, 72, 73, 74, 4]
            [(0, .pointer (some ⟨t, 0, none⟩)), (7, .int .i64 (at_ : Int))]
            [[], [0], [1], [2], [], [3, 4], [5], [6], [], [8], [9], [10], [], [11, 12], [13], [14], [7]]
            (by kernel_rfl) ⟨rfl, rfl, trivial⟩ (Below.drew (Below.refl _ _)) (fun v v' h hb => h.trans (hb.mono h.size)) ?_
            ⟨
              (fun Q a1 ww hS fr kn => ⟨trivial, fun K hK => wp_value (exec_move rfl fr.1) (hK _ _ rfl (Below.refl _ _))⟩),
              (fun Q a1 ww hS fr kn => ⟨trivial, fun K hK => wp_value (exec_nilc rfl kn.1) (hK _ _ rfl (Below.refl _ _))⟩),
              (fun Q a1 ww hS fr kn => ⟨trivial, fun K hK => wp_value (exec_ftab rfl kn.1) (hK _ _ rfl (Below.refl _ _))⟩),
              (fun Q a1 ww hS fr kn => ⟨trivial, fun K hK => wp_value (exec_ld rfl kn.1 (ld_rows (HT.out ww (HB1.out.trans (hS.mono HB1.out.size))))) (hK _ _ rfl (Below.refl _ _))⟩),
              (fun Q a1 ww hS fr kn => ⟨trivial, fun K hK => wp_value (exec_move rfl fr.2.1) (hK _ _ rfl (Below.refl _ _))⟩),
              (fun Q a1 ww hS fr kn => ⟨trivial, fun K hK => wp_value (exec_ixR (i := at_) rfl kn.1 kn.2.1 hat) (hK _ _ rfl (Below.refl _ _))⟩),
              (fun Q a1 ww hS fr kn => ⟨trivial, fun K hK => wp_value (exec_fro (k := 1) rfl kn.1 (by decide)) (hK _ _ rfl (Below.refl _ _))⟩),
              (fun Q a1 ww hS fr kn => ⟨trivial, fun K hK => wp_value (exec_ld rfl kn.1 (ld_int (ro_o (HC.out ww (HB1.out.trans (hS.mono HB1.out.size)) at_ hat)))) (hK _ _ rfl (Below.refl _ _))⟩),
              (fun Q a1 ww hS fr kn => ⟨trivial, fun K hK => wp_value (exec_move rfl fr.1) (hK _ _ rfl (Below.refl _ _))⟩),
              (fun Q a1 ww hS fr kn => ⟨trivial, fun K hK => wp_value (exec_nilc rfl kn.1) (hK _ _ rfl (Below.refl _ _))⟩),
              (fun Q a1 ww hS fr kn => ⟨trivial, fun K hK => wp_value (exec_ftab rfl kn.1) (hK _ _ rfl (Below.refl _ _))⟩),
              (fun Q a1 ww hS fr kn => ⟨trivial, fun K hK => wp_value (exec_ld rfl kn.1 (ld_rows (HT.out ww (HB1.out.trans (hS.mono HB1.out.size))))) (hK _ _ rfl (Below.refl _ _))⟩),
              (fun Q a1 ww hS fr kn => ⟨trivial, fun K hK => wp_value (exec_move rfl fr.2.1) (hK _ _ rfl (Below.refl _ _))⟩),
              (fun Q a1 ww hS fr kn => ⟨trivial, fun K hK => wp_value (exec_ixR (i := at_) rfl kn.1 kn.2.1 hat) (hK _ _ rfl (Below.refl _ _))⟩),
              (fun Q a1 ww hS fr kn => ⟨trivial, fun K hK => wp_value (exec_fro (k := 0) rfl kn.1 (by decide)) (hK _ _ rfl (Below.refl _ _))⟩),
              (fun Q a1 ww hS fr kn => ⟨trivial, fun K hK => wp_value (exec_ldP (j := at_) rfl kn.1 (HC.out ww (HB1.out.trans (hS.mono HB1.out.size)) at_ hat)) (hK _ _ rfl (Below.refl _ _))⟩),
              (fun Q a1 ww hS fr kn => ⟨trivial, fun K hK => wp_value (exec_assign rfl kn.1) (hK _ _ rfl (Below.refl _ _))⟩),
              trivial⟩ ?_)
        · intro i v u' u'' hh hb
          match i with
          | 0 | 1 | 2 | 3 | 4 | 5 | 6 | 7 | 8 | 9 | 10 | 11 | 12 | 13 | 14 | 15 | 16 => exact hh

          | n + 17 => trivial
        intro vs w7 hS7 hk7
        have e4 : vs 4 = .int .i64 (ro at_).o := hk7 16 (by decide)
        have e74 : vs 74 = .agg (SC 18 (prV (ro at_).v (ro at_).b (ro at_).n)) := hk7 15 (by decide)
        have hB7 : Below u1.heap.size u1 w7 := hB.trans (hS7.mono hB.size)
        have qz := HZ.out w7 hB7
        clear hk7 hS7
        show wpList Try.prog _ _ (_ :: _ :: []) _ _
        simp only [putAll, Act.put, List.setIfInBounds_toArray, List.set_cons_zero, List.set_cons_succ, e4, e74]
        clear e4 e74
        go_wp2_with (refine st_stO rfl rfl isPfx (prV_one _ _ _) qz (by rfl) (by rfl) ?_; intro w8 q8 o8; refine Hid.out ?_)
        refine Hid.mk ?_
        have hBr : Below w.heap.size w w8 := (hBa.trans (hB7.mono hBa.size)).trans (o8.below hgzw)
        go_wp2_with fail
        exact bodyPost_ret (res_tct rfl isPfx q8 (by rfl) (by rfl) (by rfl)) rfl ⟨by rw [HE.out]; rfl, hBr⟩
end Go.Proofs.Ytcpnleanjclfjaa
/-
  Own text. append of a part of a row of structs.
-/
namespace Go.Proofs.Ytcpnleanjclfjaa
open Go.RowKit Go.Proofs
set_option maxRecDepth 100000
def catZ {α : Type} (n : Nat) (Z Y : Nat → α) (j : Nat) : α := if j < n then Z j else Y (j - n)
theorem rX_cat (c : Nat) (Z Y : Nat → Nat → Value) (n : Nat) : ∀ k, rX c (catZ n Z Y) (n + k) = rX c Z n ++ rX c Y k
  | 0 => by
    rw [Nat.add_zero]
    show _ = _ ++ []
    rw [List.append_nil]
    exact rX_congr n (fun j f hj _ => by unfold catZ; rw [if_pos hj])
  | k + 1 => by
    show rX c (catZ n Z Y) (n + k) ++ (SC c (catZ n Z Y (n + k))).toList = rX c Z n ++ (rX c Y k ++ (SC c (Y k)).toList)
    rw [rX_cat c Z Y n k, List.append_assoc]
    have e : catZ n Z Y (n + k) = Y k := by unfold catZ; rw [if_neg (by omega), Nat.add_sub_cancel_left]
    rw [e]
theorem rX_cell {c : Nat} {Y : Nat → Nat → Value} {k i : Nat} {u : Value} (hc : 0 < c) (h : (rX c Y k)[i]? = some u) : i / c < k ∧ u = Y (i / c) (i % c) := by
  have hi := (List.getElem?_eq_some_iff.1 h).1
  rw [rX_len] at hi
  have hj : i / c < k := (Nat.div_lt_iff_lt_mul hc).2 hi
  have := rX_at c Y k (i / c) (i % c) hj (Nat.mod_lt _ hc)
  rw [Nat.div_add_mod i c, h] at this
  exact ⟨hj, Option.some.inj this⟩
theorem rX_one {c : Nat} {Y : Nat → Nat → Value} (hc : 0 < c) (hY : ∀ j f, (Y j f).oneCell' = true) {k : Nat} : ∀ u ∈ rX c Y k, u.oneCell' = true := fun u hu => by
  obtain ⟨i, hi⟩ := List.getElem?_of_mem hu
  rw [(rX_cell hc hi).2]
  exact hY _ _
theorem ap_rows {ops : Array Oper} {rest : List Oper} {o : Oper} {a : Act} {w : World} {Q : Exit → Act → World → Prop} (hgd : o.guard = none) {s x : Operand} {t e : TypeId} {c by' : Nat} {z : Nat → Value} (ht : Try.prog.underlying t = some (.slice e)) (hi : (Try.prog.info? e).map (fun i => (i.zero, i.size, i.bytes)) = some (some (.agg (SC c z)), c, by')) (hc : 0 < c) (hby : by' ≤ 1000000)
    (ho : o.op = .call { callee := .builtin .append, args := #[s, x], argTypes := #[t, t] })
    {B n k cp : Nat} {sp : Option Addr} {Z Y : Nat → Nat → Value} {v : Value} (hY : ∀ j f, (Y j f).oneCell' = true) (hs : a.eval s = v) (hx : a.eval x = .slice sp k cp) (hD : w.ownsRow B e c v n (rX c Z n))
    (hsrc : (sp = none ∧ k = 0 ∧ cp = 0) ∨ ∃ b off, sp = some ⟨b, off, none⟩ ∧ ∀ j f, j < k → f < c → w.cell? ⟨b, off + (c * j + f), none⟩ = some (Y j f)) (hl : n + k < 1000000) (hB : B ≤ w.heap.size)
    (h : ∀ v' w', w'.ownsRow B e c v' (n + k) (rX c (catZ n Z Y) (n + k)) → Below B w w' → wpList Try.prog ops Q rest (a.put o.dst v') w') : wpList Try.prog ops Q (o :: rest) a w := by
  rcases hsrc with ⟨rfl, rfl, rfl⟩ | ⟨b, off, rfl, hcell⟩
  · have hD' : w.ownsRow B e c v (n + 0) (rX c (catZ n Z Y) (n + 0)) := by
      rw [rX_cat]
      show w.ownsRow B e c v n (rX c Z n ++ [])
      rw [List.append_nil]
      exact hD
    obtain ⟨i0, hi, hz0, hz1, hz2⟩ := info_parts hi
    exact wpList_append_own_none hgd s x t ho B e i0 c ht hi v n _ hs hD hx (h v w hD' (Below.refl _ _))
  · obtain ⟨i0, hi, hz0, hz1, hz2⟩ := info_parts hi
    have hz : (Value.agg (SC c z)).cells.size = c := by show (SC c z).size = c; rw [SC_size]
    have hM : n + k ≤ maxLen := by unfold maxLen; omega
    have hYb : (n + k) * by' ≤ 140737488355328 := by
      have : (n + k) * by' ≤ 1000000 * 1000000 := Nat.mul_le_mul (by omega) hby
      omega
    refine wpList_append_own w hgd s x t ho B e i0 _ c by' ht hi hz0 hz1 hz2 hz hc _ n _ hs hD ⟨b, off, none⟩ k cp (rX c Y k) hx (rX_len c Y k) ?_ (rX_one hc hY) hM hYb hB ?_
    · intro j u hj
      obtain ⟨h1, rfl⟩ := rX_cell hc hj
      rw [Addr.add_lit]
      have := hcell (j / c) (j % c) h1 (Nat.mod_lt _ hc)
      rwa [Nat.div_add_mod j c] at this
    · intro v' w1 hown hgrow _
      rw [← rX_cat] at hown
      exact h v' w1 hown (Below.grow hgrow hB (fun q hq => (hD.lt q hq).1))
-- the document's Put as plain data
/-- The first place from k on (f places) where p does not hold. -/
def firstF (p : Nat → Bool) : Nat → Nat → Nat
  | k, 0 => k
  | k, f + 1 => if p k = true then firstF p (k + 1) f else k
theorem first_range (p : Nat → Bool) : ∀ f k, k ≤ firstF p k f ∧ firstF p k f ≤ k + f
  | 0, k => by unfold firstF; omega
  | f + 1, k => by
    have := first_range p f (k + 1)
    unfold firstF
    split <;> omega
def insZ {α : Type} (k : Nat) (ro : Nat → α) (r : α) (j : Nat) : α := if j < k then ro j else if j = k then r else ro (j - 1)
def bfP (ro : Nat → Rw) (v : Bool) (b : Nat → Int) (n : Int) (k : Nat) : Bool := beforeF (ro k).v (ro k).b (ro k).n v b n
theorem rowInfo : (Try.prog.info? 67).map (fun i => (i.zero, i.size, i.bytes)) = some (some (.agg (SC 19 (roV ⟨false, fun _ => 0, 0, 0⟩))), 19, 40) := by kernel_rfl
theorem run_ro2 (v : Bool) (b : Nat → Int) (n o : Int) (w : World) : (Instr.build 67 #[(0, .agg (SC 18 (prV v b n))), (1, .int .i64 o)]).run Try.prog w = .ok (.agg (SC 19 (roV ⟨v, b, n, o⟩))) w := by kernel_rfl
theorem exec_ro2 {a : Act} {o : Oper} {w : World} {x y : Operand} (ho : o.op = .build 67 #[(0, x), (1, y)]) {v : Bool} {b : Nat → Int} {n ow : Int} (hx : a.eval x = .agg (SC 18 (prV v b n))) (hy : a.eval y = .int .i64 ow) : (execOp a.eval o).run Try.prog w = .ok (.value (.agg (SC 19 (roV ⟨v, b, n, ow⟩)))) w := by
  have h := run_ro2 v b n ow w
  unfold execOp
  simp only [ho, List.map_toArray, List.map_cons, List.map_nil, hx, hy, Sem.run_bind, h, Result.andThen_ok, Sem.run_pure]
theorem run_bsRo (V : Nat → Value) (w : World) : (Instr.buildSlice 27 1 #[(0, .agg (SC 19 V))]).run Try.prog w = .ok (.slice (some ⟨w.heap.size, 0, none⟩) 1 1) (w.alloc (.cells (SC 19 V) 67)) := by kernel_rfl
theorem wl_bsRo {ops : Array Oper} {rest : List Oper} {o : Oper} {x : Operand} {a : Act} {w : World} {Q : Exit → Act → World → Prop} {V : Nat → Value} (ho : o.op = .buildSlice 27 1 #[(0, x)]) (hw : Region.wanted o (yielded ops a.tmps) = true) (hx : a.eval x = .agg (SC 19 V))
    (h : ∀ g w', w.heap.size ≤ g → SAt w' g 67 19 V → Below w.heap.size w w' → wpList Try.prog ops Q rest (a.put o.dst (.slice (some ⟨g, 0, none⟩) 1 1)) w') : wpList Try.prog ops Q (o :: rest) a w := by
  have hr := run_bsRo V w
  refine wl_act hw ?_
  unfold Oper.wp execOp
  simp only [ho, List.map_toArray, List.map_cons, List.map_nil, hx, Sem.run_bind, hr, Result.andThen_ok, Sem.run_pure, Oper.upon]
  exact h _ _ (Nat.le_refl _) (heap_alloc_new w _) ((Below.refl _ _).alloc (Nat.le_refl _) _)
theorem exec_lenR {a : Act} {o : Oper} {w : World} {x : Operand} (ho : o.op = .call { callee := .builtin .len, args := #[x], argTypes := #[27] }) {ad : Option Addr} {n c : Nat} (hx : a.eval x = .slice ad n c) : (execOp a.eval o).run Try.prog w = .ok (.value (.int .i64 (n : Int))) w := by
  have hr : (Builtin.len_ #[27] o.type #[.slice ad n c]).run Try.prog w = .ok (goInt n) w := by simp [go_sem]
  simp [execOp, ho, resolve, invoke, builtin, hx, hr, goInt]
/-- t.L[:k] and t.L[k:]. -/
theorem slR_hi (p : Option Addr) (m c k : Nat) (w : World) (hk : k ≤ m) (hm : m ≤ c) : (Instr.sliceAt 27 (.slice p m c) none (some (.int .i64 (k : Int))) none).run Try.prog w = .ok (.slice p k c) w := by
  have h2 : (k : Int) ≤ (c : Int) := by omega
  cases p <;> simp [go_sem, h2]
theorem slR_lo (g m c k : Nat) (w : World) (hk : k ≤ m) (hm : m ≤ c) : ∃ q cq, (Instr.sliceAt 27 (.slice (some ⟨g, 0, none⟩) m c) (some (.int .i64 (k : Int))) none none).run Try.prog w = .ok (.slice (some ⟨g, q, none⟩) (m - k) cq) w ∧ (k < m → q = 19 * k) := by
  have h2 : (k : Int) ≤ (m : Int) := by omega
  simp [go_sem, h2]
  by_cases e : c = k
  · exact ⟨0, by rw [if_pos e], fun h => by omega⟩
  · exact ⟨k * 19, by rw [if_neg e], fun _ => Nat.mul_comm _ _⟩
end Go.Proofs.Ytcpnleanjclfjaa
/-
  Own text. The document's table: Put.
-/
namespace Go.Proofs.Ytcpnleanjclfjaa
open Go.RowKit Go.Proofs
set_option maxRecDepth 100000
theorem enterBefR (args : Array Value) (w : World) : (callFunc 33 args).run Try.prog w = .ok (.enter 33 args) w := by kernel_rfl
/-- Where a prefix's place is in a table. -/
def posF (ro : Nat → Rw) (m : Nat) (v : Bool) (b : Nat → Int) (n : Int) : Nat := firstF (bfP ro v b n) 0 m
def isAt (ro : Nat → Rw) (m k : Nat) (v : Bool) (b : Nat → Int) (n : Int) : Bool := decide (k < m) && eqPF (ro k).v (ro k).b (ro k).n v b n
def putE (ro : Nat → Rw) (m : Nat) (v : Bool) (b : Nat → Int) (n : Int) : Int := if isAt ro m (posF ro m v b n) v b n = true then 0 else if 64 ≤ m then 81 else 0
def putM (ro : Nat → Rw) (m : Nat) (v : Bool) (b : Nat → Int) (n : Int) : Nat := if isAt ro m (posF ro m v b n) v b n = true then m else if 64 ≤ m then m else m + 1
def putRo (ro : Nat → Rw) (m : Nat) (v : Bool) (b : Nat → Int) (n ow : Int) : Nat → Rw := if isAt ro m (posF ro m v b n) v b n = true then setG ro (posF ro m v b n) { ro (posF ro m v b n) with o := ow } else if 64 ≤ m then ro else insZ (posF ro m v b n) ro ⟨v, b, n, ow⟩
def TabT (t : Nat) (x : Value) (k : Nat) : Prop := k = t ∨ x.ownBlock = some k
theorem exec_slHi {a : Act} {o : Oper} {w : World} {x y : Operand} (ho : o.op = .slice 27 x none (some y) none) {p : Option Addr} {m c k : Nat} (hx : a.eval x = .slice p m c) (hy : a.eval y = .int .i64 (k : Int)) (hk : k ≤ m) (hm : m ≤ c) : (execOp a.eval o).run Try.prog w = .ok (.value (.slice p k c)) w := exec_slH ho hx hy (slR_hi p m c k w hk hm)
abbrev RoT : TypeId := 67
theorem row_src {w : World} {B m cap : Nat} {p : Option Addr} {ro : Nat → Rw} (h : w.ownsRow B 67 19 (.slice p m cap) m (rX 19 (fun j => roV (ro j)) m)) : m ≤ cap ∧ ((p = none ∧ m = 0 ∧ cap = 0) ∨ ∃ g, p = some ⟨g, 0, none⟩ ∧ ∀ j f, j < m → f < 19 → w.cell? ⟨g, 19 * j + f, none⟩ = some (roV (ro j) f)) := by
  rcases h.2 with ⟨e, _⟩ | ⟨g, cap', cur, e, hBB, hg, hmc, _⟩
  · injection e with e1 e2 e3
    exact ⟨by omega, .inl ⟨e1, e2, e3⟩⟩
  · injection e with e1 e2 e3
    subst e1
    exact ⟨by omega, .inr ⟨g, rfl, fun j f hj hf => own_at h hj f hf⟩⟩
theorem src_hi {w : World} {m k cap : Nat} {p : Option Addr} {ro : Nat → Rw} (h : (p = none ∧ m = 0 ∧ cap = 0) ∨ ∃ g, p = some ⟨g, 0, none⟩ ∧ ∀ j f, j < m → f < 19 → w.cell? ⟨g, 19 * j + f, none⟩ = some (roV (ro j) f)) (hk : k ≤ m) : (p = none ∧ k = 0 ∧ cap = 0) ∨ ∃ b off, p = some ⟨b, off, none⟩ ∧ ∀ j f, j < k → f < 19 → w.cell? ⟨b, off + (19 * j + f), none⟩ = some (roV (ro j) f) := by
  rcases h with ⟨e1, e2, e3⟩ | ⟨g, e, hc⟩
  · exact .inl ⟨e1, by omega, e3⟩
  · exact .inr ⟨g, 0, e, fun j f hj hf => by rw [Nat.zero_add]; exact hc j f (by omega) hf⟩
theorem src_lo {w : World} {B m k cap : Nat} {p : Option Addr} {ro : Nat → Rw} (h : w.ownsRow B 67 19 (.slice p m cap) m (rX 19 (fun j => roV (ro j)) m)) (hk : k ≤ m) : ∃ sp cq, (Instr.sliceAt 27 (.slice p m cap) (some (.int .i64 (k : Int))) none none).run Try.prog w = .ok (.slice sp (m - k) cq) w ∧ ((sp = none ∧ m - k = 0 ∧ cq = 0) ∨ ∃ b off, sp = some ⟨b, off, none⟩ ∧ ∀ j f, j < m - k → f < 19 → w.cell? ⟨b, off + (19 * j + f), none⟩ = some (roV (ro (k + j)) f)) := by
  obtain ⟨hmc, ⟨rfl, rfl, rfl⟩ | ⟨g, rfl, hc⟩⟩ := row_src h
  · obtain rfl : k = 0 := by omega
    exact ⟨none, 0, by simp [go_sem], .inl ⟨rfl, rfl, rfl⟩⟩
  · obtain ⟨q, cq, hrun, hq⟩ := slR_lo g m cap k w hk hmc
    refine ⟨_, cq, hrun, .inr ⟨g, q, rfl, fun j f hj hf => ?_⟩⟩
    rw [hq (by omega), show 19 * k + (19 * j + f) = 19 * (k + j) + f by omega]
    exact hc _ f (by omega) hf
section
variable {ops : Array Oper} {rest : List Oper} {o : Oper} {a : Act} {w : World} {Q : Exit → Act → World → Prop} {s x : Operand}
theorem ap_nilR (hgd : o.guard = none) (ho : o.op = .call { callee := .builtin .append, args := #[s, x], argTypes := #[27, 27] }) {k cp : Nat} {sp : Option Addr} {ro : Nat → Rw} (hs : a.eval s = .slice none 0 0) (hx : a.eval x = .slice sp k cp)
    (hsrc : (sp = none ∧ k = 0 ∧ cp = 0) ∨ ∃ b off, sp = some ⟨b, off, none⟩ ∧ ∀ j f, j < k → f < 19 → w.cell? ⟨b, off + (19 * j + f), none⟩ = some (roV (ro j) f)) (hl : k < 1000)
    (h : ∀ v' w', w'.ownsRow w.heap.size 67 19 v' k (rX 19 (fun j => roV (ro j)) k) → Below w.heap.size w w' → wpList Try.prog ops Q rest (a.put o.dst v') w') : wpList Try.prog ops Q (o :: rest) a w :=
  ap_rows (Y := fun j => roV (ro j)) (Z := fun j => roV (ro j)) hgd (by kernel_rfl) rowInfo (by omega) (by omega) ho (fun j f => roV_one _ _) hs hx ⟨rfl, .inl ⟨rfl, rfl⟩⟩ hsrc (by omega) (Nat.le_refl _) (fun v' w' hr hb => h v' w' (by
    rw [Nat.zero_add, rX_congr (Z' := fun j => roV (ro j)) k (fun j f _ _ => by unfold catZ; rw [if_neg (by omega), Nat.sub_zero])] at hr
    exact hr) hb)
theorem ap_oneR (hgd : o.guard = none) (ho : o.op = .call { callee := .builtin .append, args := #[s, x], argTypes := #[27, 27] }) {N k b : Nat} {v : Value} {ro : Nat → Rw} {r : Rw} (hs : a.eval s = v) (hx : a.eval x = .slice (some ⟨b, 0, none⟩) 1 1)
    (hD : w.ownsRow N 67 19 v k (rX 19 (fun j => roV (ro j)) k)) (hg : SAt w b 67 19 (roV r)) (hl : k < 1000) (hB : N ≤ w.heap.size)
    (h : ∀ v' w', w'.ownsRow N 67 19 v' (k + 1) (rX 19 (fun j => roV (insZ k ro r j)) (k + 1)) → Below N w w' → wpList Try.prog ops Q rest (a.put o.dst v') w') : wpList Try.prog ops Q (o :: rest) a w :=
  ap_row hgd (by kernel_rfl) rowInfo (by omega) (by omega) ho (fun i => roV_one _ _) hs hx hD hg (by omega) hB (fun v' w' hr hgr _ => h v' w' (by
    rw [rX_congr (Z' := fun j => roV (insZ k ro r j)) (k + 1) (fun j f hj _ => by
      unfold insZ
      by_cases e : j = k
      · subst e; rw [gE, if_neg (by omega), if_pos rfl]
      · rw [gD _ _ _ e, if_pos (by omega)])] at hr
    exact hr) (Below.grow hgr hB (fun q hq => ownM_base hD q hq)))
theorem ap_restR (hgd : o.guard = none) (ho : o.op = .call { callee := .builtin .append, args := #[s, x], argTypes := #[27, 27] }) {N k m cp : Nat} {sp : Option Addr} {v : Value} {ro : Nat → Rw} {r : Rw} (hs : a.eval s = v) (hx : a.eval x = .slice sp (m - k) cp)
    (hD : w.ownsRow N 67 19 v (k + 1) (rX 19 (fun j => roV (insZ k ro r j)) (k + 1)))
    (hsrc : (sp = none ∧ m - k = 0 ∧ cp = 0) ∨ ∃ b off, sp = some ⟨b, off, none⟩ ∧ ∀ j f, j < m - k → f < 19 → w.cell? ⟨b, off + (19 * j + f), none⟩ = some (roV (ro (k + j)) f)) (hk : k ≤ m) (hl : m < 1000) (hB : N ≤ w.heap.size)
    (h : ∀ v' w', w'.ownsRow N 67 19 v' (m + 1) (rX 19 (fun j => roV (insZ k ro r j)) (m + 1)) → Below N w w' → wpList Try.prog ops Q rest (a.put o.dst v') w') : wpList Try.prog ops Q (o :: rest) a w :=
  ap_rows (Y := fun j => roV (ro (k + j))) hgd (by kernel_rfl) rowInfo (by omega) (by omega) ho (fun j f => roV_one _ _) hs hx hD hsrc (by omega) hB (fun v' w' hr hb => h v' w' (by
    rw [show k + 1 + (m - k) = m + 1 by omega, rX_congr (Z' := fun j => roV (insZ k ro r j)) (m + 1) (fun j f hj _ => by
      unfold catZ
      by_cases e : j < k + 1
      · rw [if_pos e]
      · rw [if_neg e]
        unfold insZ
        rw [if_neg (by omega), if_neg (by omega)]
        show roV (ro (k + (j - (k + 1)))) f = _
        rw [show k + (j - (k + 1)) = j - 1 by omega])] at hr
    exact hr) hb)
end
set_option maxHeartbeats 16000000 in
theorem rPut_yes {w : World} {B t m : Nat} {x : Value} {ro : Nat → Rw} (v : Bool) (b : Nat → Int) (n ow : Int) {wb : Nat → Int} (hwb : whB b n = wb) (h : TabD w B t x m ro) (hb : Byts 16 b) (hm : m < 1000) (hr : rightF v b n = true) : Calls Try.prog 16 #[.pointer (some ⟨t, 0, none⟩), .agg (SC 18 (prV v b n)), .int .i64 ow] w fun e w' => e = .returned (.int .i64 (putE ro m v wb n)) ∧ ∃ x', TabD w' B t x' (putM ro m v wb n) (putRo ro m v wb n ow) ∧ Touch (TabT t x) w w' ∧ ∀ q, x'.ownBlock = some q → x.ownBlock = some q ∨ w.heap.size ≤ q := by
  have HWV : Hid (wholeV v b n = prV v wb n) := Hid.mk (by unfold wholeV; rw [if_pos hr, hwb])
  have HP0 : Hid (posF ro m v wb n = firstF (bfP ro v wb n) 0 m) := Hid.mk rfl
  have HPS : Hid (∀ k f, firstF (bfP ro v wb n) k (f + 1) = if bfP ro v wb n k = true then firstF (bfP ro v wb n) (k + 1) f else k) := Hid.mk (fun k f => rfl)
  have HPZ : Hid (∀ k, firstF (bfP ro v wb n) k 0 = k) := Hid.mk (fun k => rfl)
  obtain ⟨p, cap, hxe, hpos⟩ := ownM_shape h.row
  subst hxe
  generalize firstF (bfP ro v wb n) = FP at *
  go_enter Try.func16, Try.ntmps16
  go_wp2_with (refine wl_boxO rfl rfl isPfx (by rfl) ?_; intro gp w1 hgp qp hB1; refine Hid.out ?_)
  refine Hid.mk ?_
  go_wp2_with (refine wl_value rfl (look_st rfl isPfx qp (by rfl)) ?_)
  refine (right_run v b n w1).mono ?_
  rintro e w2 ⟨rfl, hB2⟩
  have qp2 := SAt.kept qp hB2
  rw [hr]
  go_wp2_with (refine wl_value rfl (look_st rfl isPfx qp2 (by rfl)) ?_)
  refine (whole_run v b n w2 hb).mono ?_
  rintro e w3 ⟨rfl, hB3⟩
  have qp3 := SAt.kept qp2 hB3
  rw [HWV.out]
  have hB03 : Below w.heap.size w w3 := hB1.trans ((hB2.trans (hB3.mono hB2.size)).mono hB1.size)
  go_wp2_with (refine wl_alO rfl rfl zeroPfx ?_; intro gq w4 hgq qq hB4; refine Hid.out ?_)
  refine Hid.mk ?_
  have hgqw : w.heap.size ≤ gq := by have := hB03.size; omega
  go_wp2_with (refine st_stO rfl rfl isPfx (prV_one _ _ _) qq (by rfl) (by rfl) ?_; intro u1 q1 o1; refine Hid.out ?_)
  refine Hid.mk ?_
  have hBa : Below w.heap.size w u1 := (hB03.trans (hB4.mono hB03.size)).trans (o1.below hgqw)
  have h1 := h.below hBa
  have HQ : Hid (∀ z, Below u1.heap.size u1 z → SAt z gq 37 18 (prV v wb n)) := Hid.mk (fun z hz => SAt.kept q1 hz)
  have HT : Hid (∀ z, Below u1.heap.size u1 z → z.cell? ⟨t, 0, none⟩ = some (.slice p m cap)) := Hid.mk (fun z hz => SAt.at (SAt.kept h1.blk hz) 0 (by omega))
  have HTB : Hid (∀ z, Below u1.heap.size u1 z → TabD z B t (.slice p m cap) m ro) := Hid.mk (fun z hz => h1.below hz)
  have HSAME : Hid (∀ z, Below u1.heap.size u1 z → ∃ x', TabD z B t x' m ro ∧ Touch (TabT t (.slice p m cap)) w z ∧ ∀ q, x'.ownBlock = some q → (Value.slice p m cap).ownBlock = some q ∨ w.heap.size ≤ q) := Hid.mk (fun z hz => by
    have hz2 := hBa.trans (hz.mono hBa.size)
    exact ⟨_, h1.below hz, ⟨hz2.os, hz2.tape, hz2.output, hz2.size, fun k hk _ => hz2.block k hk⟩, fun q hq => .inl hq⟩)
  have HCC : Hid (∀ g, p = some ⟨g, 0, none⟩ → ∀ z, Below u1.heap.size u1 z → ∀ k, k < m → ∀ f, f < 19 → z.cell? ⟨g, 19 * k + f, none⟩ = some (roV (ro k) f)) := Hid.mk (fun g e z hz k hk f hf => by
    have hr := (h1.below hz).row
    rw [e] at hr
    exact own_at hr hk f hf)
  have HBA := Hid.mk hBa
  clear h h1 qp qp2 qp3 hB1 hB2 hB3 hB4 hB03 qq q1 o1 hgp hgq
  have hB0 : Below u1.heap.size u1 u1 := Below.refl _ _
  go_wp2_with fail
  go_loopg [9] m (fun gm s9 z => ∃ k : Nat, gm = m - k ∧ k ≤ m ∧ s9 = .int .i64 (k : Int) ∧ Hid (posF ro m v wb n = FP k (m - k)) ∧ Below u1.heap.size u1 z)
  case atStart => exact ⟨0, by omega, by omega, rfl, Hid.mk HP0.out, hB0⟩
  case round =>
    obtain ⟨k, hgm, hk, rfl, HPI, hB⟩ := hrel
    clear hB0
    by_cases hlt : k < m
    · obtain ⟨g, rfl⟩ := hpos (by omega)
      have hkd : decide ((k : Int) < (m : Int)) = true := decide_eq_true (by omega)
      have HC := Hid.mk (HCC.out g rfl)
      cases hbf : bfP ro v wb n k
      · have HPK : Hid (posF ro m v wb n = k) := Hid.mk (by rw [HPI.out, show m - k = m - (k + 1) + 1 by omega, HPS.out, hbf]; rfl)
        have HBF : Hid (∀ z, Calls Try.prog 33 #[.agg (SC 18 (prV (ro k).v (ro k).b (ro k).n)), .agg (SC 18 (prV v wb n))] z fun e w' => e = .returned (.bool false) ∧ Below z.heap.size z w') := Hid.mk (fun z => by have := before_run (ro k).v (ro k).b (ro k).n v wb n z; rw [show beforeF (ro k).v (ro k).b (ro k).n v wb n = false from hbf] at this; exact this)
        go_wp2_with fail
        refine wp_region3 (Below u1.heap.size u1) wr.heap.size
            ([] : List (Nat × Cont))
            [kv (.int .i64 (k : Int)), kv (.pointer (some ⟨t, 0, none⟩)), kv (.pointer (some ⟨t, 0, none⟩)), kv (.pointer (some ⟨t, 0, none⟩)), kv (.slice (some ⟨g, 0, none⟩) m cap), kv (.int .i64 (m : Int)), kv (.bool true), kv (.bool true), kv (.pointer (some ⟨t, 0, none⟩)), kv (.pointer (some ⟨t, 0, none⟩)), kv (.pointer (some ⟨t, 0, none⟩)), kv (.slice (some ⟨g, 0, none⟩) m cap), kv (.int .i64 (k : Int)), kv (.pointer (some ⟨g, 19 * k, none⟩)), kv (.pointer (some ⟨g, 19 * k + 0, none⟩)), kv (.agg (SC 18 (prV (ro k).v (ro k).b (ro k).n))), kv (.agg (SC 18 (prV v wb n))), kv (.bool false), kv (.bool false)]
            [.none, .none, .none, .none, .none, .none, .none, .none, .none, .none, .none, .none, .none, .none, .none, .none, .none, .none, .none]
            [some 17, some 18, some 19, some 20, some 21, some 22, some 23, some 24, some 25, some 26, some 27, some 28, some 29, some 30, some 31, some 32, some 33, some 34, some 35]
            [(0, .pointer (some ⟨t, 0, none⟩)), (8, .pointer (some ⟨gq, 0, none⟩)), (9, .int .i64 (k : Int))]
            [[], [], [.slot 1], [.slot 2], [.slot 3], [.slot 4], [.slot 0, .slot 5], [.slot 6], [.slot 7], [.slot 7, .slot 8], [.slot 7, .slot 9], [.slot 7, .slot 10], [.slot 7], [.slot 7, .slot 11, .slot 12], [.slot 7, .slot 13], [.slot 7, .slot 14], [.slot 7], [.slot 7, .slot 15, .slot 16], [.slot 7, .slot 17]]
            [.slot 18] [17, 18, 19, 20, 21, 22, 23, 24, 25, 26, 27, 28, 29, 30, 31, 32, 33, 34, 35]
            rfl (by kernel_rfl) ⟨rfl, rfl, rfl, trivial⟩ (hB.drew) (Nat.le_refl _) trivial trivial (below_Gc7 (by have := hB.size; omega))
            ⟨
              (fun Q aq ww own hS hBg fr kn => .inl ⟨trivial, fun K hK => wp_value (exec_move rfl fr.2.2.1) (hK _ _ ⟨Touch.refl _ _, rfl⟩)⟩),
              (fun Q aq ww own hS hBg fr kn => .inl ⟨trivial, fun K hK => wp_value (exec_move rfl fr.1) (hK _ _ ⟨Touch.refl _ _, rfl⟩)⟩),
              (fun Q aq ww own hS hBg fr kn => .inl ⟨trivial, fun K hK => wp_value (exec_nilc rfl kn.1) (hK _ _ ⟨Touch.refl _ _, rfl⟩)⟩),
              (fun Q aq ww own hS hBg fr kn => .inl ⟨trivial, fun K hK => wp_value (exec_ftab rfl kn.1) (hK _ _ ⟨Touch.refl _ _, rfl⟩)⟩),
              (fun Q aq ww own hS hBg fr kn => .inl ⟨trivial, fun K hK => wp_value (exec_ld rfl kn.1 (ld_rows (HT.out ww hS))) (hK _ _ ⟨Touch.refl _ _, rfl⟩)⟩),
              (fun Q aq ww own hS hBg fr kn => .inl ⟨trivial, fun K hK => wp_value (exec_lenR rfl kn.1) (hK _ _ ⟨Touch.refl _ _, rfl⟩)⟩),
              (fun Q aq ww own hS hBg fr kn => .inl ⟨trivial, fun K hK => wp_value (exec_lssI rfl kn.1 kn.2.1 hkd) (hK _ _ ⟨Touch.refl _ _, rfl⟩)⟩),
              (fun Q aq ww own hS hBg fr kn => .inl ⟨trivial, fun K hK => wp_value (exec_move rfl kn.1) (hK _ _ ⟨Touch.refl _ _, rfl⟩)⟩),
              (fun Q aq ww own hS hBg fr kn => .inl ⟨kn.1, fun K hK => wp_value (exec_move rfl fr.1) (hK _ _ ⟨Touch.refl _ _, rfl⟩)⟩),
              (fun Q aq ww own hS hBg fr kn => .inl ⟨kn.1, fun K hK => wp_value (exec_nilc rfl kn.2.1) (hK _ _ ⟨Touch.refl _ _, rfl⟩)⟩),
              (fun Q aq ww own hS hBg fr kn => .inl ⟨kn.1, fun K hK => wp_value (exec_ftab rfl kn.2.1) (hK _ _ ⟨Touch.refl _ _, rfl⟩)⟩),
              (fun Q aq ww own hS hBg fr kn => .inl ⟨kn.1, fun K hK => wp_value (exec_ld rfl kn.2.1 (ld_rows (HT.out ww hS))) (hK _ _ ⟨Touch.refl _ _, rfl⟩)⟩),
              (fun Q aq ww own hS hBg fr kn => .inl ⟨kn.1, fun K hK => wp_value (exec_move rfl fr.2.2.1) (hK _ _ ⟨Touch.refl _ _, rfl⟩)⟩),
              (fun Q aq ww own hS hBg fr kn => .inl ⟨kn.1, fun K hK => wp_value (exec_ixR (i := k) rfl kn.2.1 kn.2.2.1 hlt) (hK _ _ ⟨Touch.refl _ _, rfl⟩)⟩),
              (fun Q aq ww own hS hBg fr kn => .inl ⟨kn.1, fun K hK => wp_value (exec_fro (k := 0) rfl kn.2.1 (by decide)) (hK _ _ ⟨Touch.refl _ _, rfl⟩)⟩),
              (fun Q aq ww own hS hBg fr kn => .inl ⟨kn.1, fun K hK => wp_value (exec_ldP (j := k) rfl kn.2.1 (HC.out ww hS k hlt)) (hK _ _ ⟨Touch.refl _ _, rfl⟩)⟩),
              (fun Q aq ww own hS hBg fr kn => .inl ⟨kn.1, fun K hK => wp_value (look_st rfl isPfx (HQ.out ww hS) fr.2.1) (hK _ _ ⟨Touch.refl _ _, rfl⟩)⟩),
              (fun Q aq ww own hS hBg fr kn => .inl ⟨kn.1, fun K hK => stepc enterBefR rfl (args2 kn.2.1 kn.2.2.1) (HBF.out ww) (fun w' hb => hK _ _ ⟨touch_below hb, rfl⟩)⟩),
              (fun Q aq ww own hS hBg fr kn => .inl ⟨trivial, fun K hK => wp_value (exec_pick (v := .bool false) rfl kn.1 kn.2.1) (hK _ _ ⟨Touch.refl _ _, rfl⟩)⟩),
              trivial⟩ ?_
        intro vs own u5 hB5 hsz kn inj
        have eo : vs 35 = .bool false := kn.1
        clear kn inj hsz
        simp only [putAll, Act.put, List.setIfInBounds_toArray, List.set_cons_zero, List.set_cons_succ, eo]
        clear eo
        clear hB
        have hB := hB5
        clear hB5
        obtain ⟨wr, hwr⟩ : ∃ wr, wr = u5 := ⟨_, rfl⟩
        subst hwr
        cases heq : eqPF (ro k).v (ro k).b (ro k).n v wb n
        · have hia : isAt ro m k v wb n = false := by unfold isAt; rw [heq]; simp
          go_wp2_with fail
          refine wp_region3 (Below u1.heap.size u1) wr.heap.size
              ([] : List (Nat × Cont))
              [kv (.int .i64 (k : Int)), kv (.pointer (some ⟨t, 0, none⟩)), kv (.pointer (some ⟨t, 0, none⟩)), kv (.pointer (some ⟨t, 0, none⟩)), kv (.slice (some ⟨g, 0, none⟩) m cap), kv (.int .i64 (m : Int)), kv (.bool true), kv (.bool true), kv (.pointer (some ⟨t, 0, none⟩)), kv (.pointer (some ⟨t, 0, none⟩)), kv (.pointer (some ⟨t, 0, none⟩)), kv (.slice (some ⟨g, 0, none⟩) m cap), kv (.int .i64 (k : Int)), kv (.pointer (some ⟨g, 19 * k, none⟩)), kv (.pointer (some ⟨g, 19 * k + 0, none⟩)), kv (.agg (SC 18 (prV (ro k).v (ro k).b (ro k).n))), kv (.agg (SC 18 (prV v wb n))), kv (.bool false), kv (.bool false)]
              [.none, .none, .none, .none, .none, .none, .none, .none, .none, .none, .none, .none, .none, .none, .none, .none, .none, .none, .none]
              [some 38, some 39, some 40, some 41, some 42, some 43, some 44, some 45, some 46, some 47, some 48, some 49, some 50, some 51, some 52, some 53, some 54, some 55, some 56]
              [(0, .pointer (some ⟨t, 0, none⟩)), (8, .pointer (some ⟨gq, 0, none⟩)), (9, .int .i64 (k : Int))]
              [[], [], [.slot 1], [.slot 2], [.slot 3], [.slot 4], [.slot 0, .slot 5], [.slot 6], [.slot 7], [.slot 7, .slot 8], [.slot 7, .slot 9], [.slot 7, .slot 10], [.slot 7], [.slot 7, .slot 11, .slot 12], [.slot 7, .slot 13], [.slot 7, .slot 14], [.slot 7], [.slot 7, .slot 15, .slot 16], [.slot 7, .slot 17]]
              [.slot 18] [38, 39, 40, 41, 42, 43, 44, 45, 46, 47, 48, 49, 50, 51, 52, 53, 54, 55, 56]
              rfl (by kernel_rfl) ⟨rfl, rfl, rfl, trivial⟩ (hB.drew) (Nat.le_refl _) trivial trivial (below_Gc7 (by have := hB.size; omega))
              ⟨
                (fun Q aq ww own hS hBg fr kn => .inl ⟨trivial, fun K hK => wp_value (exec_move rfl fr.2.2.1) (hK _ _ ⟨Touch.refl _ _, rfl⟩)⟩),
                (fun Q aq ww own hS hBg fr kn => .inl ⟨trivial, fun K hK => wp_value (exec_move rfl fr.1) (hK _ _ ⟨Touch.refl _ _, rfl⟩)⟩),
                (fun Q aq ww own hS hBg fr kn => .inl ⟨trivial, fun K hK => wp_value (exec_nilc rfl kn.1) (hK _ _ ⟨Touch.refl _ _, rfl⟩)⟩),
                (fun Q aq ww own hS hBg fr kn => .inl ⟨trivial, fun K hK => wp_value (exec_ftab rfl kn.1) (hK _ _ ⟨Touch.refl _ _, rfl⟩)⟩),
                (fun Q aq ww own hS hBg fr kn => .inl ⟨trivial, fun K hK => wp_value (exec_ld rfl kn.1 (ld_rows (HT.out ww hS))) (hK _ _ ⟨Touch.refl _ _, rfl⟩)⟩),
                (fun Q aq ww own hS hBg fr kn => .inl ⟨trivial, fun K hK => wp_value (exec_lenR rfl kn.1) (hK _ _ ⟨Touch.refl _ _, rfl⟩)⟩),
                (fun Q aq ww own hS hBg fr kn => .inl ⟨trivial, fun K hK => wp_value (exec_lssI rfl kn.1 kn.2.1 hkd) (hK _ _ ⟨Touch.refl _ _, rfl⟩)⟩),
                (fun Q aq ww own hS hBg fr kn => .inl ⟨trivial, fun K hK => wp_value (exec_move rfl kn.1) (hK _ _ ⟨Touch.refl _ _, rfl⟩)⟩),
                (fun Q aq ww own hS hBg fr kn => .inl ⟨kn.1, fun K hK => wp_value (exec_move rfl fr.1) (hK _ _ ⟨Touch.refl _ _, rfl⟩)⟩),
                (fun Q aq ww own hS hBg fr kn => .inl ⟨kn.1, fun K hK => wp_value (exec_nilc rfl kn.2.1) (hK _ _ ⟨Touch.refl _ _, rfl⟩)⟩),
                (fun Q aq ww own hS hBg fr kn => .inl ⟨kn.1, fun K hK => wp_value (exec_ftab rfl kn.2.1) (hK _ _ ⟨Touch.refl _ _, rfl⟩)⟩),
                (fun Q aq ww own hS hBg fr kn => .inl ⟨kn.1, fun K hK => wp_value (exec_ld rfl kn.2.1 (ld_rows (HT.out ww hS))) (hK _ _ ⟨Touch.refl _ _, rfl⟩)⟩),
                (fun Q aq ww own hS hBg fr kn => .inl ⟨kn.1, fun K hK => wp_value (exec_move rfl fr.2.2.1) (hK _ _ ⟨Touch.refl _ _, rfl⟩)⟩),
                (fun Q aq ww own hS hBg fr kn => .inl ⟨kn.1, fun K hK => wp_value (exec_ixR (i := k) rfl kn.2.1 kn.2.2.1 hlt) (hK _ _ ⟨Touch.refl _ _, rfl⟩)⟩),
                (fun Q aq ww own hS hBg fr kn => .inl ⟨kn.1, fun K hK => wp_value (exec_fro (k := 0) rfl kn.2.1 (by decide)) (hK _ _ ⟨Touch.refl _ _, rfl⟩)⟩),
                (fun Q aq ww own hS hBg fr kn => .inl ⟨kn.1, fun K hK => wp_value (exec_ldP (j := k) rfl kn.2.1 (HC.out ww hS k hlt)) (hK _ _ ⟨Touch.refl _ _, rfl⟩)⟩),
                (fun Q aq ww own hS hBg fr kn => .inl ⟨kn.1, fun K hK => wp_value (look_st rfl isPfx (HQ.out ww hS) fr.2.1) (hK _ _ ⟨Touch.refl _ _, rfl⟩)⟩),
                (fun Q aq ww own hS hBg fr kn => .inl ⟨kn.1, fun K hK => wp_value (exec_eqP rfl kn.2.1 kn.2.2.1 heq) (hK _ _ ⟨Touch.refl _ _, rfl⟩)⟩),
                (fun Q aq ww own hS hBg fr kn => .inl ⟨trivial, fun K hK => wp_value (exec_pick (v := .bool false) rfl kn.1 kn.2.1) (hK _ _ ⟨Touch.refl _ _, rfl⟩)⟩),
                trivial⟩ ?_
          intro vs own u6 hB5 hsz kn inj
          have eo : vs 56 = .bool false := kn.1
          clear kn inj hsz
          simp only [putAll, Act.put, List.setIfInBounds_toArray, List.set_cons_zero, List.set_cons_succ, eo]
          clear eo
          have hB6 : Below u1.heap.size u1 u6 := hB5
          by_cases hfull : 64 ≤ m
          · have hmd : decide ((64 : Int) ≤ (m : Int)) = true := decide_eq_true (by omega)
            have HE : Hid (putE ro m v wb n = 81 ∧ putM ro m v wb n = m ∧ putRo ro m v wb n ow = ro) := Hid.mk (by unfold putE putM putRo; rw [HPK.out, hia]; simp [hfull])
            have ct := HT.out u6 hB6
            go_wp2_with (refine wl_value rfl (exec_lenR rfl (by rfl)) ?_)
            go_ret
            exact ⟨by rw [HE.out.1]; rfl, by rw [HE.out.2.1, HE.out.2.2]; exact HSAME.out _ hB6⟩
          · try clear hkm
            have hmd : decide ((64 : Int) ≤ (m : Int)) = false := decide_eq_false (by omega)
            have HE : Hid (putE ro m v wb n = 0 ∧ putM ro m v wb n = m + 1 ∧ putRo ro m v wb n ow = insZ k ro ⟨v, wb, n, ow⟩) := Hid.mk (by unfold putE putM putRo; rw [HPK.out, hia]; simp [hfull])
            have ct := HT.out u6 hB6
            have HS6 := Hid.mk (row_src (HTB.out u6 hB6).row)
            have hmc := HS6.out.1
            go_wp2_with (first | (refine wl_value rfl (exec_lenR rfl (by rfl)) ?_) | (refine wl_value rfl (exec_slHi rfl (by rfl) (by rfl) hk hmc) ?_) | (refine ap_nilR rfl rfl (by rfl) (by rfl) (src_hi HS6.out.2 hk) (by omega) ?_; intro xA wA rA hA; refine Hid.out ?_))
            refine Hid.mk ?_
            have hB7 : Below u1.heap.size u1 wA := hB6.trans (hA.mono hB6.size)
            have q7 := HQ.out wA hB7
            go_wp2_with (first | (refine wl_value rfl (look_st rfl isPfx q7 (by rfl)) ?_) | (refine wl_value rfl (exec_ro2 rfl (by rfl) (by rfl)) ?_) | (refine wl_bsRo rfl rfl (by rfl) ?_; intro gb wB hgb qb hBb; refine Hid.out ?_))
            refine Hid.mk ?_
            have hB8 : Below u1.heap.size u1 wB := hB7.trans (hBb.mono hB7.size)
            have rB := ownT_kept rA hBb
            have hNB : u6.heap.size ≤ wB.heap.size := by have := hA.size; have := hBb.size; omega
            go_wp2_with (refine ap_oneR rfl rfl (by rfl) (by rfl) rB qb (by omega) hNB ?_; intro xC wC rC hC; refine Hid.out ?_)
            refine Hid.mk ?_
            have hB9 : Below u1.heap.size u1 wC := hB8.trans (hC.mono hB6.size)
            have ct2 := HT.out wC hB9
            have hNC : u6.heap.size ≤ wC.heap.size := by have := hC.size; omega
            obtain ⟨sp, cq, hrun, hsrc⟩ := src_lo (HTB.out wC hB9).row hk
            have HSC := Hid.mk hsrc
            clear hsrc
            go_wp2_with (first | (refine wl_value rfl (exec_slL rfl (by rfl) (by rfl) hrun) ?_) | (refine ap_restR rfl rfl (by rfl) (by rfl) rC HSC.out hk (by omega) hNC ?_; intro xD wD rD hD; refine Hid.out ?_))
            refine Hid.mk ?_
            obtain ⟨pD, cD, exD, _⟩ := ownM_shape rD
            subst exD
            have hB10 : Below u1.heap.size u1 wD := hB9.trans (hD.mono hB6.size)
            have htD := HTB.out wD hB10
            have ctD := HT.out wD hB10
            have ftD : wD.frozen? ⟨t, 0, none⟩ = false := frozen_of_row wD t 0 _ _ htD.blk
            have HX : Hid (∃ x', TabD (wD.setCell ⟨t, 0, none⟩ (.slice pD (m + 1) cD)) B t x' (m + 1) (insZ k ro ⟨v, wb, n, ow⟩) ∧ Touch (TabT t (.slice (some ⟨g, 0, none⟩) m cap)) w (wD.setCell ⟨t, 0, none⟩ (.slice pD (m + 1) cD)) ∧ ∀ q, x'.ownBlock = some q → (Value.slice (some ⟨g, 0, none⟩) m cap).ownBlock = some q ∨ w.heap.size ≤ q) := Hid.mk (by
              have o9 : Only t wD (wD.setCell ⟨t, 0, none⟩ (.slice pD (m + 1) cD)) := only_set
              have hz2 := HBA.out.trans (hB10.mono HBA.out.size)
              have hN : B ≤ u6.heap.size := (HTB.out u6 hB6).hi
              exact ⟨(.slice pD (m + 1) cD), ⟨(htD.blk.set 0 (.slice pD (m + 1) cD) (by omega)).congr (fun i hi => by rw [if_pos (by omega)]), ownM_mono (ownM_block rD (fun q hq => o9.block q (by have := ownM_base rD q hq; have := htD.lo; omega))) hN, htD.lo, by rw [o9.size]; exact htD.hi⟩, ⟨o9.os.trans hz2.os, o9.tape.trans hz2.tape, o9.output.trans hz2.output, by rw [o9.size]; exact hz2.size, fun j hj hn => (o9.block j (fun e => hn (.inl e))).trans (hz2.block j hj)⟩, fun q hq => .inr (by have := ownM_base rD q hq; have := HBA.out.size; have := hB6.size; omega)⟩)
            clear htD
            go_wp2_with fail
            go_ret
            exact ⟨by rw [HE.out.1]; rfl, by rw [HE.out.2.1, HE.out.2.2]; exact HX.out⟩
        · have hia : isAt ro m k v wb n = true := by unfold isAt; rw [heq, decide_eq_true hlt]; rfl
          have HE : Hid (putE ro m v wb n = 0 ∧ putM ro m v wb n = m ∧ putRo ro m v wb n ow = setG ro k { ro k with o := ow }) := Hid.mk (by unfold putE putM putRo; rw [HPK.out, hia]; simp)
          go_wp2_with fail
          refine wp_region3 (Below u1.heap.size u1) wr.heap.size
              ([] : List (Nat × Cont))
              [kv (.int .i64 (k : Int)), kv (.pointer (some ⟨t, 0, none⟩)), kv (.pointer (some ⟨t, 0, none⟩)), kv (.pointer (some ⟨t, 0, none⟩)), kv (.slice (some ⟨g, 0, none⟩) m cap), kv (.int .i64 (m : Int)), kv (.bool true), kv (.bool true), kv (.pointer (some ⟨t, 0, none⟩)), kv (.pointer (some ⟨t, 0, none⟩)), kv (.pointer (some ⟨t, 0, none⟩)), kv (.slice (some ⟨g, 0, none⟩) m cap), kv (.int .i64 (k : Int)), kv (.pointer (some ⟨g, 19 * k, none⟩)), kv (.pointer (some ⟨g, 19 * k + 0, none⟩)), kv (.agg (SC 18 (prV (ro k).v (ro k).b (ro k).n))), kv (.agg (SC 18 (prV v wb n))), kv (.bool true), kv (.bool true)]
              [.none, .none, .none, .none, .none, .none, .none, .none, .none, .none, .none, .none, .none, .none, .none, .none, .none, .none, .none]
              [some 38, some 39, some 40, some 41, some 42, some 43, some 44, some 45, some 46, some 47, some 48, some 49, some 50, some 51, some 52, some 53, some 54, some 55, some 56]
              [(0, .pointer (some ⟨t, 0, none⟩)), (8, .pointer (some ⟨gq, 0, none⟩)), (9, .int .i64 (k : Int))]
              [[], [], [.slot 1], [.slot 2], [.slot 3], [.slot 4], [.slot 0, .slot 5], [.slot 6], [.slot 7], [.slot 7, .slot 8], [.slot 7, .slot 9], [.slot 7, .slot 10], [.slot 7], [.slot 7, .slot 11, .slot 12], [.slot 7, .slot 13], [.slot 7, .slot 14], [.slot 7], [.slot 7, .slot 15, .slot 16], [.slot 7, .slot 17]]
              [.slot 18] [38, 39, 40, 41, 42, 43, 44, 45, 46, 47, 48, 49, 50, 51, 52, 53, 54, 55, 56]
              rfl (by kernel_rfl) ⟨rfl, rfl, rfl, trivial⟩ (hB.drew) (Nat.le_refl _) trivial trivial (below_Gc7 (by have := hB.size; omega))
              ⟨
                (fun Q aq ww own hS hBg fr kn => .inl ⟨trivial, fun K hK => wp_value (exec_move rfl fr.2.2.1) (hK _ _ ⟨Touch.refl _ _, rfl⟩)⟩),
                (fun Q aq ww own hS hBg fr kn => .inl ⟨trivial, fun K hK => wp_value (exec_move rfl fr.1) (hK _ _ ⟨Touch.refl _ _, rfl⟩)⟩),
                (fun Q aq ww own hS hBg fr kn => .inl ⟨trivial, fun K hK => wp_value (exec_nilc rfl kn.1) (hK _ _ ⟨Touch.refl _ _, rfl⟩)⟩),
                (fun Q aq ww own hS hBg fr kn => .inl ⟨trivial, fun K hK => wp_value (exec_ftab rfl kn.1) (hK _ _ ⟨Touch.refl _ _, rfl⟩)⟩),
                (fun Q aq ww own hS hBg fr kn => .inl ⟨trivial, fun K hK => wp_value (exec_ld rfl kn.1 (ld_rows (HT.out ww hS))) (hK _ _ ⟨Touch.refl _ _, rfl⟩)⟩),
                (fun Q aq ww own hS hBg fr kn => .inl ⟨trivial, fun K hK => wp_value (exec_lenR rfl kn.1) (hK _ _ ⟨Touch.refl _ _, rfl⟩)⟩),
                (fun Q aq ww own hS hBg fr kn => .inl ⟨trivial, fun K hK => wp_value (exec_lssI rfl kn.1 kn.2.1 hkd) (hK _ _ ⟨Touch.refl _ _, rfl⟩)⟩),
                (fun Q aq ww own hS hBg fr kn => .inl ⟨trivial, fun K hK => wp_value (exec_move rfl kn.1) (hK _ _ ⟨Touch.refl _ _, rfl⟩)⟩),
                (fun Q aq ww own hS hBg fr kn => .inl ⟨kn.1, fun K hK => wp_value (exec_move rfl fr.1) (hK _ _ ⟨Touch.refl _ _, rfl⟩)⟩),
                (fun Q aq ww own hS hBg fr kn => .inl ⟨kn.1, fun K hK => wp_value (exec_nilc rfl kn.2.1) (hK _ _ ⟨Touch.refl _ _, rfl⟩)⟩),
                (fun Q aq ww own hS hBg fr kn => .inl ⟨kn.1, fun K hK => wp_value (exec_ftab rfl kn.2.1) (hK _ _ ⟨Touch.refl _ _, rfl⟩)⟩),
                (fun Q aq ww own hS hBg fr kn => .inl ⟨kn.1, fun K hK => wp_value (exec_ld rfl kn.2.1 (ld_rows (HT.out ww hS))) (hK _ _ ⟨Touch.refl _ _, rfl⟩)⟩),
                (fun Q aq ww own hS hBg fr kn => .inl ⟨kn.1, fun K hK => wp_value (exec_move rfl fr.2.2.1) (hK _ _ ⟨Touch.refl _ _, rfl⟩)⟩),
                (fun Q aq ww own hS hBg fr kn => .inl ⟨kn.1, fun K hK => wp_value (exec_ixR (i := k) rfl kn.2.1 kn.2.2.1 hlt) (hK _ _ ⟨Touch.refl _ _, rfl⟩)⟩),
                (fun Q aq ww own hS hBg fr kn => .inl ⟨kn.1, fun K hK => wp_value (exec_fro (k := 0) rfl kn.2.1 (by decide)) (hK _ _ ⟨Touch.refl _ _, rfl⟩)⟩),
                (fun Q aq ww own hS hBg fr kn => .inl ⟨kn.1, fun K hK => wp_value (exec_ldP (j := k) rfl kn.2.1 (HC.out ww hS k hlt)) (hK _ _ ⟨Touch.refl _ _, rfl⟩)⟩),
                (fun Q aq ww own hS hBg fr kn => .inl ⟨kn.1, fun K hK => wp_value (look_st rfl isPfx (HQ.out ww hS) fr.2.1) (hK _ _ ⟨Touch.refl _ _, rfl⟩)⟩),
                (fun Q aq ww own hS hBg fr kn => .inl ⟨kn.1, fun K hK => wp_value (exec_eqP rfl kn.2.1 kn.2.2.1 heq) (hK _ _ ⟨Touch.refl _ _, rfl⟩)⟩),
                (fun Q aq ww own hS hBg fr kn => .inl ⟨trivial, fun K hK => wp_value (exec_pick (v := .bool true) rfl kn.1 kn.2.1) (hK _ _ ⟨Touch.refl _ _, rfl⟩)⟩),
                trivial⟩ ?_
          intro vs own u6 hB5 hsz kn inj
          have eo : vs 56 = .bool true := kn.1
          clear kn inj hsz
          simp only [putAll, Act.put, List.setIfInBounds_toArray, List.set_cons_zero, List.set_cons_succ, eo]
          clear eo
          have ct := HT.out u6 hB5
          have co : u6.cell? ⟨g, 19 * k + 18, none⟩ = some (.int .i64 (ro k).o) := HC.out u6 hB5 k hlt 18 (by omega)
          have htb := HTB.out u6 hB5
          have fo : u6.frozen? ⟨g, 19 * k + 18, none⟩ = false := by
            rcases htb.row.2 with ⟨e, _⟩ | ⟨g', cap', cur, e, hBB, hg, _⟩
            · cases e
            · injection e with e1 e2 e3
              injection e1 with e1
              injection e1 with e1
              subst e1
              exact frozen_of_row u6 g _ _ _ hg
          have hgt := ownM_base htb.row g rfl
          have HX : Hid (∃ x', TabD (u6.setCell ⟨g, 19 * k + 18, none⟩ (.int .i64 ow)) B t x' m (setG ro k { ro k with o := ow }) ∧ Touch (TabT t (.slice (some ⟨g, 0, none⟩) m cap)) w (u6.setCell ⟨g, 19 * k + 18, none⟩ (.int .i64 ow)) ∧ ∀ q, x'.ownBlock = some q → (Value.slice (some ⟨g, 0, none⟩) m cap).ownBlock = some q ∨ w.heap.size ≤ q) := Hid.mk (by
            have o9 : Only g u6 (u6.setCell ⟨g, 19 * k + 18, none⟩ (.int .i64 ow)) := only_set
            have hz2 := HBA.out.trans (hB5.mono HBA.out.size)
            refine ⟨_, ⟨htb.blk.only o9 (by have := htb.lo; omega), ?_, htb.lo, by rw [o9.size]; exact htb.hi⟩, ⟨o9.os.trans hz2.os, o9.tape.trans hz2.tape, o9.output.trans hz2.output, by rw [o9.size]; exact hz2.size, fun j hj hn => (o9.block j (fun e => hn (.inr (by rw [e]; rfl)))).trans (hz2.block j hj)⟩, fun q hq => .inl hq⟩
            have := own_set htb.row hlt (show 18 < 19 by omega) (.int .i64 ow)
            rw [rX_congr (Z' := fun j => roV (setG ro k { ro k with o := ow } j)) m (fun j f hj hf => ?_)] at this
            · exact this
            · by_cases ej : j = k
              · subst ej
                rw [gE, gE]
                unfold setG roV
                by_cases e18 : f = 18
                · subst e18; rfl
                · rw [if_neg e18, if_pos (by omega), if_pos (by omega)]
              · rw [gD _ _ _ ej, gD _ _ _ ej])
          clear htb
          go_wp2_with (first | (refine wl_value rfl (exec_ixR (i := k) rfl (by rfl) (by rfl) hlt) ?_) | (refine wl_value rfl (exec_fro (k := 1) rfl (by rfl) (by decide)) ?_))
          go_ret
          exact ⟨by rw [HE.out.1]; rfl, by rw [HE.out.2.1, HE.out.2.2]; exact HX.out⟩
      · have HF : Hid (posF ro m v wb n = FP (k + 1) (m - (k + 1))) := Hid.mk (by rw [HPI.out, show m - k = m - (k + 1) + 1 by omega, HPS.out, hbf]; rfl)
        have HBF : Hid (∀ z, Calls Try.prog 33 #[.agg (SC 18 (prV (ro k).v (ro k).b (ro k).n)), .agg (SC 18 (prV v wb n))] z fun e w' => e = .returned (.bool true) ∧ Below z.heap.size z w') := Hid.mk (fun z => by have := before_run (ro k).v (ro k).b (ro k).n v wb n z; rw [show beforeF (ro k).v (ro k).b (ro k).n v wb n = true from hbf] at this; exact this)
        go_wp2_with fail
        refine wp_region3 (Below u1.heap.size u1) wr.heap.size
            ([] : List (Nat × Cont))
            [kv (.int .i64 (k : Int)), kv (.pointer (some ⟨t, 0, none⟩)), kv (.pointer (some ⟨t, 0, none⟩)), kv (.pointer (some ⟨t, 0, none⟩)), kv (.slice (some ⟨g, 0, none⟩) m cap), kv (.int .i64 (m : Int)), kv (.bool true), kv (.bool true), kv (.pointer (some ⟨t, 0, none⟩)), kv (.pointer (some ⟨t, 0, none⟩)), kv (.pointer (some ⟨t, 0, none⟩)), kv (.slice (some ⟨g, 0, none⟩) m cap), kv (.int .i64 (k : Int)), kv (.pointer (some ⟨g, 19 * k, none⟩)), kv (.pointer (some ⟨g, 19 * k + 0, none⟩)), kv (.agg (SC 18 (prV (ro k).v (ro k).b (ro k).n))), kv (.agg (SC 18 (prV v wb n))), kv (.bool true), kv (.bool true)]
            [.none, .none, .none, .none, .none, .none, .none, .none, .none, .none, .none, .none, .none, .none, .none, .none, .none, .none, .none]
            [some 17, some 18, some 19, some 20, some 21, some 22, some 23, some 24, some 25, some 26, some 27, some 28, some 29, some 30, some 31, some 32, some 33, some 34, some 35]
            [(0, .pointer (some ⟨t, 0, none⟩)), (8, .pointer (some ⟨gq, 0, none⟩)), (9, .int .i64 (k : Int))]
            [[], [], [.slot 1], [.slot 2], [.slot 3], [.slot 4], [.slot 0, .slot 5], [.slot 6], [.slot 7], [.slot 7, .slot 8], [.slot 7, .slot 9], [.slot 7, .slot 10], [.slot 7], [.slot 7, .slot 11, .slot 12], [.slot 7, .slot 13], [.slot 7, .slot 14], [.slot 7], [.slot 7, .slot 15, .slot 16], [.slot 7, .slot 17]]
            [.slot 18] [17, 18, 19, 20, 21, 22, 23, 24, 25, 26, 27, 28, 29, 30, 31, 32, 33, 34, 35]
            rfl (by kernel_rfl) ⟨rfl, rfl, rfl, trivial⟩ (hB.drew) (Nat.le_refl _) trivial trivial (below_Gc7 (by have := hB.size; omega))
            ⟨
              (fun Q aq ww own hS hBg fr kn => .inl ⟨trivial, fun K hK => wp_value (exec_move rfl fr.2.2.1) (hK _ _ ⟨Touch.refl _ _, rfl⟩)⟩),
              (fun Q aq ww own hS hBg fr kn => .inl ⟨trivial, fun K hK => wp_value (exec_move rfl fr.1) (hK _ _ ⟨Touch.refl _ _, rfl⟩)⟩),
              (fun Q aq ww own hS hBg fr kn => .inl ⟨trivial, fun K hK => wp_value (exec_nilc rfl kn.1) (hK _ _ ⟨Touch.refl _ _, rfl⟩)⟩),
              (fun Q aq ww own hS hBg fr kn => .inl ⟨trivial, fun K hK => wp_value (exec_ftab rfl kn.1) (hK _ _ ⟨Touch.refl _ _, rfl⟩)⟩),
              (fun Q aq ww own hS hBg fr kn => .inl ⟨trivial, fun K hK => wp_value (exec_ld rfl kn.1 (ld_rows (HT.out ww hS))) (hK _ _ ⟨Touch.refl _ _, rfl⟩)⟩),
              (fun Q aq ww own hS hBg fr kn => .inl ⟨trivial, fun K hK => wp_value (exec_lenR rfl kn.1) (hK _ _ ⟨Touch.refl _ _, rfl⟩)⟩),
              (fun Q aq ww own hS hBg fr kn => .inl ⟨trivial, fun K hK => wp_value (exec_lssI rfl kn.1 kn.2.1 hkd) (hK _ _ ⟨Touch.refl _ _, rfl⟩)⟩),
              (fun Q aq ww own hS hBg fr kn => .inl ⟨trivial, fun K hK => wp_value (exec_move rfl kn.1) (hK _ _ ⟨Touch.refl _ _, rfl⟩)⟩),
              (fun Q aq ww own hS hBg fr kn => .inl ⟨kn.1, fun K hK => wp_value (exec_move rfl fr.1) (hK _ _ ⟨Touch.refl _ _, rfl⟩)⟩),
              (fun Q aq ww own hS hBg fr kn => .inl ⟨kn.1, fun K hK => wp_value (exec_nilc rfl kn.2.1) (hK _ _ ⟨Touch.refl _ _, rfl⟩)⟩),
              (fun Q aq ww own hS hBg fr kn => .inl ⟨kn.1, fun K hK => wp_value (exec_ftab rfl kn.2.1) (hK _ _ ⟨Touch.refl _ _, rfl⟩)⟩),
              (fun Q aq ww own hS hBg fr kn => .inl ⟨kn.1, fun K hK => wp_value (exec_ld rfl kn.2.1 (ld_rows (HT.out ww hS))) (hK _ _ ⟨Touch.refl _ _, rfl⟩)⟩),
              (fun Q aq ww own hS hBg fr kn => .inl ⟨kn.1, fun K hK => wp_value (exec_move rfl fr.2.2.1) (hK _ _ ⟨Touch.refl _ _, rfl⟩)⟩),
              (fun Q aq ww own hS hBg fr kn => .inl ⟨kn.1, fun K hK => wp_value (exec_ixR (i := k) rfl kn.2.1 kn.2.2.1 hlt) (hK _ _ ⟨Touch.refl _ _, rfl⟩)⟩),
              (fun Q aq ww own hS hBg fr kn => .inl ⟨kn.1, fun K hK => wp_value (exec_fro (k := 0) rfl kn.2.1 (by decide)) (hK _ _ ⟨Touch.refl _ _, rfl⟩)⟩),
              (fun Q aq ww own hS hBg fr kn => .inl ⟨kn.1, fun K hK => wp_value (exec_ldP (j := k) rfl kn.2.1 (HC.out ww hS k hlt)) (hK _ _ ⟨Touch.refl _ _, rfl⟩)⟩),
              (fun Q aq ww own hS hBg fr kn => .inl ⟨kn.1, fun K hK => wp_value (look_st rfl isPfx (HQ.out ww hS) fr.2.1) (hK _ _ ⟨Touch.refl _ _, rfl⟩)⟩),
              (fun Q aq ww own hS hBg fr kn => .inl ⟨kn.1, fun K hK => stepc enterBefR rfl (args2 kn.2.1 kn.2.2.1) (HBF.out ww) (fun w' hb => hK _ _ ⟨touch_below hb, rfl⟩)⟩),
              (fun Q aq ww own hS hBg fr kn => .inl ⟨trivial, fun K hK => wp_value (exec_pick (v := .bool true) rfl kn.1 kn.2.1) (hK _ _ ⟨Touch.refl _ _, rfl⟩)⟩),
              trivial⟩ ?_
        intro vs own u5 hB5 hsz kn inj
        have eo : vs 35 = .bool true := kn.1
        clear kn inj hsz
        simp only [putAll, Act.put, List.setIfInBounds_toArray, List.set_cons_zero, List.set_cons_succ, eo]
        clear eo
        go_wp2_with fail
        go_roundg (m - (k + 1))
        case rel => exact ⟨k + 1, rfl, by omega, by go_num, HF, hB5⟩
        case measure => omega
    · have hkm : k = m := by omega
      have hkd : decide ((k : Int) < (m : Int)) = false := decide_eq_false (by omega)
      have HPK : Hid (posF ro m v wb n = k) := Hid.mk (by rw [HPI.out, show m - k = 0 by omega, HPZ.out])
      have hia : isAt ro m k v wb n = false := by unfold isAt; rw [decide_eq_false (by omega)]; rfl
      go_wp2_with fail
      refine wp_region3 (Below u1.heap.size u1) wr.heap.size
          ([] : List (Nat × Cont))
          [kv (.int .i64 (k : Int)), kv (.pointer (some ⟨t, 0, none⟩)), kv (.pointer (some ⟨t, 0, none⟩)), kv (.pointer (some ⟨t, 0, none⟩)), kv (.slice p m cap), kv (.int .i64 (m : Int)), kv (.bool false), kv (.bool false), kv (undef), kv (undef), kv (undef), kv (undef), kv (undef), kv (undef), kv (undef), kv (undef), kv (undef), kv (undef), kv (.bool false)]
          [.none, .none, .none, .none, .none, .none, .none, .none, .none, .none, .none, .none, .none, .none, .none, .none, .none, .none, .none]
          [some 17, some 18, some 19, some 20, some 21, some 22, some 23, some 24, some 25, some 26, some 27, some 28, some 29, some 30, some 31, some 32, some 33, some 34, some 35]
          [(0, .pointer (some ⟨t, 0, none⟩)), (8, .pointer (some ⟨gq, 0, none⟩)), (9, .int .i64 (k : Int))]
          [[], [], [.slot 1], [.slot 2], [.slot 3], [.slot 4], [.slot 0, .slot 5], [.slot 6], [.slot 7], [.slot 7], [.slot 7], [.slot 7], [.slot 7], [.slot 7], [.slot 7], [.slot 7], [.slot 7], [.slot 7], [.slot 7]]
          [.slot 18] [17, 18, 19, 20, 21, 22, 23, 24, 25, 26, 27, 28, 29, 30, 31, 32, 33, 34, 35]
          rfl (by kernel_rfl) ⟨rfl, rfl, rfl, trivial⟩ (hB.drew) (Nat.le_refl _) trivial trivial (below_Gc7 (by have := hB.size; omega))
          ⟨
            (fun Q aq ww own hS hBg fr kn => .inl ⟨trivial, fun K hK => wp_value (exec_move rfl fr.2.2.1) (hK _ _ ⟨Touch.refl _ _, rfl⟩)⟩),
            (fun Q aq ww own hS hBg fr kn => .inl ⟨trivial, fun K hK => wp_value (exec_move rfl fr.1) (hK _ _ ⟨Touch.refl _ _, rfl⟩)⟩),
            (fun Q aq ww own hS hBg fr kn => .inl ⟨trivial, fun K hK => wp_value (exec_nilc rfl kn.1) (hK _ _ ⟨Touch.refl _ _, rfl⟩)⟩),
            (fun Q aq ww own hS hBg fr kn => .inl ⟨trivial, fun K hK => wp_value (exec_ftab rfl kn.1) (hK _ _ ⟨Touch.refl _ _, rfl⟩)⟩),
            (fun Q aq ww own hS hBg fr kn => .inl ⟨trivial, fun K hK => wp_value (exec_ld rfl kn.1 (ld_rows (HT.out ww hS))) (hK _ _ ⟨Touch.refl _ _, rfl⟩)⟩),
            (fun Q aq ww own hS hBg fr kn => .inl ⟨trivial, fun K hK => wp_value (exec_lenR rfl kn.1) (hK _ _ ⟨Touch.refl _ _, rfl⟩)⟩),
            (fun Q aq ww own hS hBg fr kn => .inl ⟨trivial, fun K hK => wp_value (exec_lssI rfl kn.1 kn.2.1 hkd) (hK _ _ ⟨Touch.refl _ _, rfl⟩)⟩),
            (fun Q aq ww own hS hBg fr kn => .inl ⟨trivial, fun K hK => wp_value (exec_move rfl kn.1) (hK _ _ ⟨Touch.refl _ _, rfl⟩)⟩),
            (fun Q aq ww own hS hBg fr kn => .inr ⟨.inl kn.1, ⟨Touch.refl _ _, rfl⟩⟩),
            (fun Q aq ww own hS hBg fr kn => .inr ⟨.inl kn.1, ⟨Touch.refl _ _, rfl⟩⟩),
            (fun Q aq ww own hS hBg fr kn => .inr ⟨.inl kn.1, ⟨Touch.refl _ _, rfl⟩⟩),
            (fun Q aq ww own hS hBg fr kn => .inr ⟨.inl kn.1, ⟨Touch.refl _ _, rfl⟩⟩),
            (fun Q aq ww own hS hBg fr kn => .inr ⟨.inl kn.1, ⟨Touch.refl _ _, rfl⟩⟩),
            (fun Q aq ww own hS hBg fr kn => .inr ⟨.inl kn.1, ⟨Touch.refl _ _, rfl⟩⟩),
            (fun Q aq ww own hS hBg fr kn => .inr ⟨.inl kn.1, ⟨Touch.refl _ _, rfl⟩⟩),
            (fun Q aq ww own hS hBg fr kn => .inr ⟨.inl kn.1, ⟨Touch.refl _ _, rfl⟩⟩),
            (fun Q aq ww own hS hBg fr kn => .inr ⟨.inl kn.1, ⟨Touch.refl _ _, rfl⟩⟩),
            (fun Q aq ww own hS hBg fr kn => .inr ⟨.inl kn.1, ⟨Touch.refl _ _, rfl⟩⟩),
            (fun Q aq ww own hS hBg fr kn => .inl ⟨trivial, fun K hK => wp_value (exec_pickF (v := .bool false) rfl kn.1 rfl) (hK _ _ ⟨Touch.refl _ _, rfl⟩)⟩),
            trivial⟩ ?_
      intro vs own u5 hB5 hsz kn inj
      have eo : vs 35 = .bool false := kn.1
      clear kn inj hsz
      simp only [putAll, Act.put, List.setIfInBounds_toArray, List.set_cons_zero, List.set_cons_succ, eo]
      clear eo
      clear hB
      have hB := hB5
      clear hB5
      obtain ⟨wr, hwr⟩ : ∃ wr, wr = u5 := ⟨_, rfl⟩
      subst hwr
      go_wp2_with fail
      refine wp_region3 (Below u1.heap.size u1) wr.heap.size
          ([] : List (Nat × Cont))
          [kv (.int .i64 (k : Int)), kv (.pointer (some ⟨t, 0, none⟩)), kv (.pointer (some ⟨t, 0, none⟩)), kv (.pointer (some ⟨t, 0, none⟩)), kv (.slice p m cap), kv (.int .i64 (m : Int)), kv (.bool false), kv (.bool false), kv (undef), kv (undef), kv (undef), kv (undef), kv (undef), kv (undef), kv (undef), kv (undef), kv (undef), kv (undef), kv (.bool false)]
          [.none, .none, .none, .none, .none, .none, .none, .none, .none, .none, .none, .none, .none, .none, .none, .none, .none, .none, .none]
          [some 38, some 39, some 40, some 41, some 42, some 43, some 44, some 45, some 46, some 47, some 48, some 49, some 50, some 51, some 52, some 53, some 54, some 55, some 56]
          [(0, .pointer (some ⟨t, 0, none⟩)), (8, .pointer (some ⟨gq, 0, none⟩)), (9, .int .i64 (k : Int))]
          [[], [], [.slot 1], [.slot 2], [.slot 3], [.slot 4], [.slot 0, .slot 5], [.slot 6], [.slot 7], [.slot 7], [.slot 7], [.slot 7], [.slot 7], [.slot 7], [.slot 7], [.slot 7], [.slot 7], [.slot 7], [.slot 7]]
          [.slot 18] [38, 39, 40, 41, 42, 43, 44, 45, 46, 47, 48, 49, 50, 51, 52, 53, 54, 55, 56]
          rfl (by kernel_rfl) ⟨rfl, rfl, rfl, trivial⟩ (hB.drew) (Nat.le_refl _) trivial trivial (below_Gc7 (by have := hB.size; omega))
          ⟨
            (fun Q aq ww own hS hBg fr kn => .inl ⟨trivial, fun K hK => wp_value (exec_move rfl fr.2.2.1) (hK _ _ ⟨Touch.refl _ _, rfl⟩)⟩),
            (fun Q aq ww own hS hBg fr kn => .inl ⟨trivial, fun K hK => wp_value (exec_move rfl fr.1) (hK _ _ ⟨Touch.refl _ _, rfl⟩)⟩),
            (fun Q aq ww own hS hBg fr kn => .inl ⟨trivial, fun K hK => wp_value (exec_nilc rfl kn.1) (hK _ _ ⟨Touch.refl _ _, rfl⟩)⟩),
            (fun Q aq ww own hS hBg fr kn => .inl ⟨trivial, fun K hK => wp_value (exec_ftab rfl kn.1) (hK _ _ ⟨Touch.refl _ _, rfl⟩)⟩),
            (fun Q aq ww own hS hBg fr kn => .inl ⟨trivial, fun K hK => wp_value (exec_ld rfl kn.1 (ld_rows (HT.out ww hS))) (hK _ _ ⟨Touch.refl _ _, rfl⟩)⟩),
            (fun Q aq ww own hS hBg fr kn => .inl ⟨trivial, fun K hK => wp_value (exec_lenR rfl kn.1) (hK _ _ ⟨Touch.refl _ _, rfl⟩)⟩),
            (fun Q aq ww own hS hBg fr kn => .inl ⟨trivial, fun K hK => wp_value (exec_lssI rfl kn.1 kn.2.1 hkd) (hK _ _ ⟨Touch.refl _ _, rfl⟩)⟩),
            (fun Q aq ww own hS hBg fr kn => .inl ⟨trivial, fun K hK => wp_value (exec_move rfl kn.1) (hK _ _ ⟨Touch.refl _ _, rfl⟩)⟩),
            (fun Q aq ww own hS hBg fr kn => .inr ⟨.inl kn.1, ⟨Touch.refl _ _, rfl⟩⟩),
            (fun Q aq ww own hS hBg fr kn => .inr ⟨.inl kn.1, ⟨Touch.refl _ _, rfl⟩⟩),
            (fun Q aq ww own hS hBg fr kn => .inr ⟨.inl kn.1, ⟨Touch.refl _ _, rfl⟩⟩),
            (fun Q aq ww own hS hBg fr kn => .inr ⟨.inl kn.1, ⟨Touch.refl _ _, rfl⟩⟩),
            (fun Q aq ww own hS hBg fr kn => .inr ⟨.inl kn.1, ⟨Touch.refl _ _, rfl⟩⟩),
            (fun Q aq ww own hS hBg fr kn => .inr ⟨.inl kn.1, ⟨Touch.refl _ _, rfl⟩⟩),
            (fun Q aq ww own hS hBg fr kn => .inr ⟨.inl kn.1, ⟨Touch.refl _ _, rfl⟩⟩),
            (fun Q aq ww own hS hBg fr kn => .inr ⟨.inl kn.1, ⟨Touch.refl _ _, rfl⟩⟩),
            (fun Q aq ww own hS hBg fr kn => .inr ⟨.inl kn.1, ⟨Touch.refl _ _, rfl⟩⟩),
            (fun Q aq ww own hS hBg fr kn => .inr ⟨.inl kn.1, ⟨Touch.refl _ _, rfl⟩⟩),
            (fun Q aq ww own hS hBg fr kn => .inl ⟨trivial, fun K hK => wp_value (exec_pickF (v := .bool false) rfl kn.1 rfl) (hK _ _ ⟨Touch.refl _ _, rfl⟩)⟩),
            trivial⟩ ?_
      intro vs own u6 hB5 hsz kn inj
      have eo : vs 56 = .bool false := kn.1
      clear kn inj hsz
      simp only [putAll, Act.put, List.setIfInBounds_toArray, List.set_cons_zero, List.set_cons_succ, eo]
      clear eo
      have hB6 : Below u1.heap.size u1 u6 := hB5
      by_cases hfull : 64 ≤ m
      · have hmd : decide ((64 : Int) ≤ (m : Int)) = true := decide_eq_true (by omega)
        have HE : Hid (putE ro m v wb n = 81 ∧ putM ro m v wb n = m ∧ putRo ro m v wb n ow = ro) := Hid.mk (by unfold putE putM putRo; rw [HPK.out, hia]; simp [hfull])
        have ct := HT.out u6 hB6
        go_wp2_with (refine wl_value rfl (exec_lenR rfl (by rfl)) ?_)
        go_ret
        exact ⟨by rw [HE.out.1]; rfl, by rw [HE.out.2.1, HE.out.2.2]; exact HSAME.out _ hB6⟩
      · try clear hkm
        have hmd : decide ((64 : Int) ≤ (m : Int)) = false := decide_eq_false (by omega)
        have HE : Hid (putE ro m v wb n = 0 ∧ putM ro m v wb n = m + 1 ∧ putRo ro m v wb n ow = insZ k ro ⟨v, wb, n, ow⟩) := Hid.mk (by unfold putE putM putRo; rw [HPK.out, hia]; simp [hfull])
        have ct := HT.out u6 hB6
        have HS6 := Hid.mk (row_src (HTB.out u6 hB6).row)
        have hmc := HS6.out.1
        go_wp2_with (first | (refine wl_value rfl (exec_lenR rfl (by rfl)) ?_) | (refine wl_value rfl (exec_slHi rfl (by rfl) (by rfl) hk hmc) ?_) | (refine ap_nilR rfl rfl (by rfl) (by rfl) (src_hi HS6.out.2 hk) (by omega) ?_; intro xA wA rA hA; refine Hid.out ?_))
        refine Hid.mk ?_
        have hB7 : Below u1.heap.size u1 wA := hB6.trans (hA.mono hB6.size)
        have q7 := HQ.out wA hB7
        go_wp2_with (first | (refine wl_value rfl (look_st rfl isPfx q7 (by rfl)) ?_) | (refine wl_value rfl (exec_ro2 rfl (by rfl) (by rfl)) ?_) | (refine wl_bsRo rfl rfl (by rfl) ?_; intro gb wB hgb qb hBb; refine Hid.out ?_))
        refine Hid.mk ?_
        have hB8 : Below u1.heap.size u1 wB := hB7.trans (hBb.mono hB7.size)
        have rB := ownT_kept rA hBb
        have hNB : u6.heap.size ≤ wB.heap.size := by have := hA.size; have := hBb.size; omega
        go_wp2_with (refine ap_oneR rfl rfl (by rfl) (by rfl) rB qb (by omega) hNB ?_; intro xC wC rC hC; refine Hid.out ?_)
        refine Hid.mk ?_
        have hB9 : Below u1.heap.size u1 wC := hB8.trans (hC.mono hB6.size)
        have ct2 := HT.out wC hB9
        have hNC : u6.heap.size ≤ wC.heap.size := by have := hC.size; omega
        obtain ⟨sp, cq, hrun, hsrc⟩ := src_lo (HTB.out wC hB9).row hk
        have HSC := Hid.mk hsrc
        clear hsrc
        go_wp2_with (first | (refine wl_value rfl (exec_slL rfl (by rfl) (by rfl) hrun) ?_) | (refine ap_restR rfl rfl (by rfl) (by rfl) rC HSC.out hk (by omega) hNC ?_; intro xD wD rD hD; refine Hid.out ?_))
        refine Hid.mk ?_
        obtain ⟨pD, cD, exD, _⟩ := ownM_shape rD
        subst exD
        have hB10 : Below u1.heap.size u1 wD := hB9.trans (hD.mono hB6.size)
        have htD := HTB.out wD hB10
        have ctD := HT.out wD hB10
        have ftD : wD.frozen? ⟨t, 0, none⟩ = false := frozen_of_row wD t 0 _ _ htD.blk
        have HX : Hid (∃ x', TabD (wD.setCell ⟨t, 0, none⟩ (.slice pD (m + 1) cD)) B t x' (m + 1) (insZ k ro ⟨v, wb, n, ow⟩) ∧ Touch (TabT t (.slice p m cap)) w (wD.setCell ⟨t, 0, none⟩ (.slice pD (m + 1) cD)) ∧ ∀ q, x'.ownBlock = some q → (Value.slice p m cap).ownBlock = some q ∨ w.heap.size ≤ q) := Hid.mk (by
          have o9 : Only t wD (wD.setCell ⟨t, 0, none⟩ (.slice pD (m + 1) cD)) := only_set
          have hz2 := HBA.out.trans (hB10.mono HBA.out.size)
          have hN : B ≤ u6.heap.size := (HTB.out u6 hB6).hi
          exact ⟨(.slice pD (m + 1) cD), ⟨(htD.blk.set 0 (.slice pD (m + 1) cD) (by omega)).congr (fun i hi => by rw [if_pos (by omega)]), ownM_mono (ownM_block rD (fun q hq => o9.block q (by have := ownM_base rD q hq; have := htD.lo; omega))) hN, htD.lo, by rw [o9.size]; exact htD.hi⟩, ⟨o9.os.trans hz2.os, o9.tape.trans hz2.tape, o9.output.trans hz2.output, by rw [o9.size]; exact hz2.size, fun j hj hn => (o9.block j (fun e => hn (.inl e))).trans (hz2.block j hj)⟩, fun q hq => .inr (by have := ownM_base rD q hq; have := HBA.out.size; have := hB6.size; omega)⟩)
        clear htD
        go_wp2_with fail
        go_ret
        exact ⟨by rw [HE.out.1]; rfl, by rw [HE.out.2.1, HE.out.2.2]; exact HX.out⟩
end Go.Proofs.Ytcpnleanjclfjaa
/-
  Own text. The document's table: Put of what is no right prefix, Drop.
-/
namespace Go.Proofs.Ytcpnleanjclfjaa
open Go.RowKit Go.Proofs
set_option maxRecDepth 100000
theorem enterWhoR (args : Array Value) (w : World) : (callFunc 21 args).run Try.prog w = .ok (.enter 21 args) w := by kernel_rfl
theorem res_tt {fn : Func} {p q : Tmp} (h : fn.results = #[.tmp p, .tmp q]) {tmps : Array Value} {w : World} {u v : Value} (hp : tmps.getD p undef = u) (hq : tmps.getD q undef = v) : (results fn tmps).run Try.prog w = .ok (.tuple #[u, v]) w := by
  have hp' : tmps[p]?.getD undef = u := by simpa using hp
  have hq' : tmps[q]?.getD undef = v := by simpa using hq
  simp [results, h, hp', hq']
def remZ {α : Type} (k : Nat) (ro : Nat → α) (j : Nat) : α := if j < k then ro j else ro (j + 1)
def neP (ro : Nat → Rw) (v : Bool) (b : Nat → Int) (n : Int) (k : Nat) : Bool := !eqPF (ro k).v (ro k).b (ro k).n v b n
/-- Where a prefix is in a table (m: nowhere). -/
def drpF (ro : Nat → Rw) (m : Nat) (v : Bool) (b : Nat → Int) (n : Int) : Nat := firstF (neP ro v b n) 0 m
def dropM (ro : Nat → Rw) (m : Nat) (v : Bool) (b : Nat → Int) (n : Int) : Nat := if drpF ro m v b n < m then m - 1 else m
def dropRo (ro : Nat → Rw) (m : Nat) (v : Bool) (b : Nat → Int) (n : Int) : Nat → Rw := if drpF ro m v b n < m then remZ (drpF ro m v b n) ro else ro
def dropA (ro : Nat → Rw) (m : Nat) (v : Bool) (b : Nat → Int) (n : Int) : Value := if drpF ro m v b n < m then .tuple #[.int .i64 (ro (drpF ro m v b n)).o, .bool true] else .tuple #[.int .i64 0, .bool false]
theorem ap_cutR {ops : Array Oper} {rest : List Oper} {o : Oper} {a : Act} {w : World} {Q : Exit → Act → World → Prop} {s x : Operand} (hgd : o.guard = none) (ho : o.op = .call { callee := .builtin .append, args := #[s, x], argTypes := #[27, 27] }) {N k m cp : Nat} {sp : Option Addr} {v : Value} {ro : Nat → Rw} (hs : a.eval s = v) (hx : a.eval x = .slice sp (m - (k + 1)) cp)
    (hD : w.ownsRow N 67 19 v k (rX 19 (fun j => roV (ro j)) k))
    (hsrc : (sp = none ∧ m - (k + 1) = 0 ∧ cp = 0) ∨ ∃ b off, sp = some ⟨b, off, none⟩ ∧ ∀ j f, j < m - (k + 1) → f < 19 → w.cell? ⟨b, off + (19 * j + f), none⟩ = some (roV (ro (k + 1 + j)) f)) (hk : k + 1 ≤ m) (hl : m < 1000) (hB : N ≤ w.heap.size)
    (h : ∀ v' w', w'.ownsRow N 67 19 v' (m - 1) (rX 19 (fun j => roV (remZ k ro j)) (m - 1)) → Below N w w' → wpList Try.prog ops Q rest (a.put o.dst v') w') : wpList Try.prog ops Q (o :: rest) a w :=
  ap_rows (Y := fun j => roV (ro (k + 1 + j))) hgd (by kernel_rfl) rowInfo (by omega) (by omega) ho (fun j f => roV_one _ _) hs hx hD hsrc (by omega) hB (fun v' w' hr hb => h v' w' (by
    rw [show k + (m - (k + 1)) = m - 1 by omega, rX_congr (Z' := fun j => roV (remZ k ro j)) (m - 1) (fun j f hj _ => by
      unfold catZ remZ
      by_cases e : j < k
      · rw [if_pos e, if_pos e]
      · rw [if_neg e, if_neg e]
        show roV (ro (k + 1 + (j - k))) f = _
        rw [show k + 1 + (j - k) = j + 1 by omega])] at hr
    exact hr) hb)
set_option maxHeartbeats 4000000 in
theorem rPut_no {w : World} {t : Nat} (v : Bool) (b : Nat → Int) (n ow : Int) (hr : rightF v b n = false) : Calls Try.prog 16 #[.pointer (some ⟨t, 0, none⟩), .agg (SC 18 (prV v b n)), .int .i64 ow] w fun e w' => e = .returned (.int .i64 25) ∧ Below w.heap.size w w' := by
  go_enter Try.func16, Try.ntmps16
  go_wp2_with (refine wl_boxO rfl rfl isPfx (by rfl) ?_; intro gp w1 hgp qp hB1; refine Hid.out ?_)
  refine Hid.mk ?_
  go_wp2_with (refine wl_value rfl (look_st rfl isPfx qp (by rfl)) ?_)
  refine (right_run v b n w1).mono ?_
  rintro e w2 ⟨rfl, hB2⟩
  rw [hr]
  have hB : Below w.heap.size w w2 := hB1.trans (hB2.mono hB1.size)
  go_wp2_with fail
  go_ret
  exact ⟨rfl, hB⟩
set_option maxHeartbeats 4000000 in
theorem rDrop_no {w : World} {B t m : Nat} {x : Value} {ro : Nat → Rw} (v : Bool) (b : Nat → Int) (n : Int) (h : TabD w B t x m ro) (hm : m < 1000) (hr : rightF v b n = false) : Calls Try.prog 12 #[.pointer (some ⟨t, 0, none⟩), .agg (SC 18 (prV v b n))] w fun e w' => e = .returned (.tuple #[.int .i64 0, .bool false]) ∧ Below w.heap.size w w' := by
  obtain ⟨p, cap, hxe, hpos⟩ := ownM_shape h.row
  subst hxe
  go_enter Try.func12, Try.ntmps12
  go_wp2_with (refine wl_boxO rfl rfl isPfx (by rfl) ?_; intro gp w1 hgp qp hB1; refine Hid.out ?_)
  refine Hid.mk ?_
  go_wp2_with (refine wl_value rfl (look_st rfl isPfx qp (by rfl)) ?_)
  refine (right_run v b n w1).mono ?_
  rintro e u1 ⟨rfl, hB2⟩
  rw [hr]
  have hBa : Below w.heap.size w u1 := hB1.trans (hB2.mono hB1.size)
  have h1 := h.below hBa
  have HT : Hid (∀ z, Below u1.heap.size u1 z → z.cell? ⟨t, 0, none⟩ = some (.slice p m cap)) := Hid.mk (fun z hz => SAt.at (SAt.kept h1.blk hz) 0 (by omega))
  clear h h1 qp hB1 hB2 hgp
  have hB0 : Below u1.heap.size u1 u1 := Below.refl _ _
  go_wp2_with fail
  go_loopg [7] 0 (fun gm s7 z => gm = 0 ∧ s7 = .int .i64 0 ∧ Below u1.heap.size u1 z)
  case atStart => exact ⟨rfl, rfl, hB0⟩
  case round =>
    obtain ⟨hgm, rfl, hB⟩ := hrel
    have hBr : Below w.heap.size w wr := hBa.trans (hB.mono hBa.size)
    have ct := HT.out wr hB
    by_cases hlt : 0 < m
    · have hkd : decide ((0 : Int) < (m : Int)) = true := decide_eq_true (by omega)
      go_wp2_with (refine wl_value rfl (exec_lenR rfl (by rfl)) ?_)
      exact bodyPost_ret (res_tt rfl (by rfl) (by rfl)) rfl ⟨rfl, hBr⟩
    · have hkd : decide ((0 : Int) < (m : Int)) = false := decide_eq_false (by omega)
      go_wp2_with (refine wl_value rfl (exec_lenR rfl (by rfl)) ?_)
      exact bodyPost_ret (res_tt rfl (by rfl) (by rfl)) rfl ⟨rfl, hBr⟩
set_option maxHeartbeats 16000000 in
theorem rDrop_yes {w : World} {B t m : Nat} {x : Value} {ro : Nat → Rw} (v : Bool) (b : Nat → Int) (n : Int) {wb : Nat → Int} (hwb : whB b n = wb) (h : TabD w B t x m ro) (hb : Byts 16 b) (hm : m < 1000) (hr : rightF v b n = true) : Calls Try.prog 12 #[.pointer (some ⟨t, 0, none⟩), .agg (SC 18 (prV v b n))] w fun e w' => e = .returned (dropA ro m v wb n) ∧ ∃ x', TabD w' B t x' (dropM ro m v wb n) (dropRo ro m v wb n) ∧ Touch (TabT t x) w w' ∧ ∀ q, x'.ownBlock = some q → x.ownBlock = some q ∨ w.heap.size ≤ q := by
  have HWH : Hid (∀ z, Calls Try.prog 21 #[.agg (SC 18 (prV v b n))] z fun e w' => e = .returned (.agg (SC 18 (prV v wb n))) ∧ Below z.heap.size z w') := Hid.mk (fun z => by
    have := whole_run v b n z hb
    rw [show wholeV v b n = prV v wb n by unfold wholeV; rw [if_pos hr, hwb]] at this
    exact this)
  have HP0 : Hid (drpF ro m v wb n = firstF (neP ro v wb n) 0 m) := Hid.mk rfl
  have HPS : Hid (∀ k f, firstF (neP ro v wb n) k (f + 1) = if neP ro v wb n k = true then firstF (neP ro v wb n) (k + 1) f else k) := Hid.mk (fun k f => rfl)
  have HPZ : Hid (∀ k, firstF (neP ro v wb n) k 0 = k) := Hid.mk (fun k => rfl)
  obtain ⟨p, cap, hxe, hpos⟩ := ownM_shape h.row
  subst hxe
  generalize firstF (neP ro v wb n) = FP at *
  go_enter Try.func12, Try.ntmps12
  go_wp2_with (refine wl_boxO rfl rfl isPfx (by rfl) ?_; intro gp w1 hgp qp hB1; refine Hid.out ?_)
  refine Hid.mk ?_
  go_wp2_with (refine wl_value rfl (look_st rfl isPfx qp (by rfl)) ?_)
  refine (right_run v b n w1).mono ?_
  rintro e u1 ⟨rfl, hB2⟩
  have qp2 := SAt.kept qp hB2
  rw [hr]
  have hBa : Below w.heap.size w u1 := hB1.trans (hB2.mono hB1.size)
  have h1 := h.below hBa
  have HQ : Hid (∀ z, Below u1.heap.size u1 z → SAt z gp 37 18 (prV v b n)) := Hid.mk (fun z hz => SAt.kept qp2 hz)
  have HT : Hid (∀ z, Below u1.heap.size u1 z → z.cell? ⟨t, 0, none⟩ = some (.slice p m cap)) := Hid.mk (fun z hz => SAt.at (SAt.kept h1.blk hz) 0 (by omega))
  have HTB : Hid (∀ z, Below u1.heap.size u1 z → TabD z B t (.slice p m cap) m ro) := Hid.mk (fun z hz => h1.below hz)
  have HSAME : Hid (∀ z, Below u1.heap.size u1 z → ∃ x', TabD z B t x' m ro ∧ Touch (TabT t (.slice p m cap)) w z ∧ ∀ q, x'.ownBlock = some q → (Value.slice p m cap).ownBlock = some q ∨ w.heap.size ≤ q) := Hid.mk (fun z hz => by
    have hz2 := hBa.trans (hz.mono hBa.size)
    exact ⟨_, h1.below hz, ⟨hz2.os, hz2.tape, hz2.output, hz2.size, fun k hk _ => hz2.block k hk⟩, fun q hq => .inl hq⟩)
  have HCC : Hid (∀ g, p = some ⟨g, 0, none⟩ → ∀ z, Below u1.heap.size u1 z → ∀ k, k < m → ∀ f, f < 19 → z.cell? ⟨g, 19 * k + f, none⟩ = some (roV (ro k) f)) := Hid.mk (fun g e z hz k hk f hf => by
    have hr := (h1.below hz).row
    rw [e] at hr
    exact own_at hr hk f hf)
  have HBA := Hid.mk hBa
  clear h h1 qp qp2 hB1 hB2 hgp
  have hB0 : Below u1.heap.size u1 u1 := Below.refl _ _
  go_wp2_with fail
  go_loopg [7] m (fun gm s7 z => ∃ k : Nat, gm = m - k ∧ k ≤ m ∧ s7 = .int .i64 (k : Int) ∧ Hid (drpF ro m v wb n = FP k (m - k)) ∧ Below u1.heap.size u1 z)
  case atStart => exact ⟨0, by omega, by omega, rfl, Hid.mk HP0.out, hB0⟩
  case round =>
    obtain ⟨k, hgm, hk, rfl, HPI, hB⟩ := hrel
    clear hB0
    have ct := HT.out wr hB
    by_cases hlt : k < m
    · obtain ⟨g, rfl⟩ := hpos (by omega)
      have hkd : decide ((k : Int) < (m : Int)) = true := decide_eq_true (by omega)
      have HC := Hid.mk (HCC.out g rfl)
      cases heq : eqPF (ro k).v (ro k).b (ro k).n v wb n
      · have HF : Hid (drpF ro m v wb n = FP (k + 1) (m - (k + 1))) := Hid.mk (by rw [HPI.out, show m - k = m - (k + 1) + 1 by omega, HPS.out]; unfold neP; rw [heq]; rfl)
        go_wp2_with (refine wl_value rfl (exec_lenR rfl (by rfl)) ?_)
        clear ct
        refine wp_region3 (Below u1.heap.size u1) wr.heap.size
            ([] : List (Nat × Cont))
            [kv (.pointer (some ⟨t, 0, none⟩)), kv (.pointer (some ⟨t, 0, none⟩)), kv (.pointer (some ⟨t, 0, none⟩)), kv (.slice (some ⟨g, 0, none⟩) m cap), kv (.int .i64 (k : Int)), kv (.pointer (some ⟨g, 19 * k, none⟩)), kv (.pointer (some ⟨g, 19 * k + 0, none⟩)), kv (.agg (SC 18 (prV (ro k).v (ro k).b (ro k).n))), kv (.agg (SC 18 (prV v b n))), kv (.agg (SC 18 (prV v wb n))), kv (.bool false)]
            [.none, .none, .none, .none, .none, .none, .none, .none, .none, .none, .none]
            [some 24, some 25, some 26, some 27, some 28, some 29, some 30, some 31, some 32, some 33, some 34]
            [(0, .pointer (some ⟨t, 0, none⟩)), (3, .pointer (some ⟨gp, 0, none⟩)), (7, .int .i64 (k : Int))]
            [[], [.slot 0], [.slot 1], [.slot 2], [], [.slot 3, .slot 4], [.slot 5], [.slot 6], [], [.slot 8], [.slot 7, .slot 9]]
            [.slot 10] [24, 25, 26, 27, 28, 29, 30, 31, 32, 33, 34]
            rfl (by kernel_rfl) ⟨rfl, rfl, rfl, trivial⟩ (hB.drew) (Nat.le_refl _) trivial trivial (below_Gc7 (by have := hB.size; omega))
            ⟨
              (fun Q aq ww own hS hBg fr kn => .inl ⟨trivial, fun K hK => wp_value (exec_move rfl fr.1) (hK _ _ ⟨Touch.refl _ _, rfl⟩)⟩),
              (fun Q aq ww own hS hBg fr kn => .inl ⟨trivial, fun K hK => wp_value (exec_nilc rfl kn.1) (hK _ _ ⟨Touch.refl _ _, rfl⟩)⟩),
              (fun Q aq ww own hS hBg fr kn => .inl ⟨trivial, fun K hK => wp_value (exec_ftab rfl kn.1) (hK _ _ ⟨Touch.refl _ _, rfl⟩)⟩),
              (fun Q aq ww own hS hBg fr kn => .inl ⟨trivial, fun K hK => wp_value (exec_ld rfl kn.1 (ld_rows (HT.out ww hS))) (hK _ _ ⟨Touch.refl _ _, rfl⟩)⟩),
              (fun Q aq ww own hS hBg fr kn => .inl ⟨trivial, fun K hK => wp_value (exec_move rfl fr.2.2.1) (hK _ _ ⟨Touch.refl _ _, rfl⟩)⟩),
              (fun Q aq ww own hS hBg fr kn => .inl ⟨trivial, fun K hK => wp_value (exec_ixR (i := k) rfl kn.1 kn.2.1 hlt) (hK _ _ ⟨Touch.refl _ _, rfl⟩)⟩),
              (fun Q aq ww own hS hBg fr kn => .inl ⟨trivial, fun K hK => wp_value (exec_fro (k := 0) rfl kn.1 (by decide)) (hK _ _ ⟨Touch.refl _ _, rfl⟩)⟩),
              (fun Q aq ww own hS hBg fr kn => .inl ⟨trivial, fun K hK => wp_value (exec_ldP (j := k) rfl kn.1 (HC.out ww hS k hlt)) (hK _ _ ⟨Touch.refl _ _, rfl⟩)⟩),
              (fun Q aq ww own hS hBg fr kn => .inl ⟨trivial, fun K hK => wp_value (look_st rfl isPfx (HQ.out ww hS) fr.2.1) (hK _ _ ⟨Touch.refl _ _, rfl⟩)⟩),
              (fun Q aq ww own hS hBg fr kn => .inl ⟨trivial, fun K hK => stepc enterWhoR rfl (args1 kn.1) (HWH.out ww) (fun w' hb => hK _ _ ⟨touch_below hb, rfl⟩)⟩),
              (fun Q aq ww own hS hBg fr kn => .inl ⟨trivial, fun K hK => wp_value (exec_eqP rfl kn.1 kn.2.1 heq) (hK _ _ ⟨Touch.refl _ _, rfl⟩)⟩),
              trivial⟩ ?_
        intro vs own u6 hB6 hsz kn inj
        have eo : vs 34 = .bool false := kn.1
        clear kn inj hsz
        simp only [putAll, Act.put, List.setIfInBounds_toArray, List.set_cons_zero, List.set_cons_succ, eo]
        clear eo
        go_wp2_with fail
        go_roundg (m - (k + 1))
        case rel => exact ⟨k + 1, rfl, by omega, by go_num, HF, hB6⟩
        case measure => omega
      · have HPK : Hid (drpF ro m v wb n = k) := Hid.mk (by rw [HPI.out, show m - k = m - (k + 1) + 1 by omega, HPS.out]; unfold neP; rw [heq]; rfl)
        have HE : Hid (dropA ro m v wb n = .tuple #[.int .i64 (ro k).o, .bool true] ∧ dropM ro m v wb n = m - 1 ∧ dropRo ro m v wb n = remZ k ro) := Hid.mk (by unfold dropA dropM dropRo; rw [HPK.out, if_pos hlt, if_pos hlt, if_pos hlt]; exact ⟨rfl, rfl, rfl⟩)
        go_wp2_with (refine wl_value rfl (exec_lenR rfl (by rfl)) ?_)
        clear ct
        refine wp_region3 (Below u1.heap.size u1) wr.heap.size
            ([] : List (Nat × Cont))
            [kv (.pointer (some ⟨t, 0, none⟩)), kv (.pointer (some ⟨t, 0, none⟩)), kv (.pointer (some ⟨t, 0, none⟩)), kv (.slice (some ⟨g, 0, none⟩) m cap), kv (.int .i64 (k : Int)), kv (.pointer (some ⟨g, 19 * k, none⟩)), kv (.pointer (some ⟨g, 19 * k + 0, none⟩)), kv (.agg (SC 18 (prV (ro k).v (ro k).b (ro k).n))), kv (.agg (SC 18 (prV v b n))), kv (.agg (SC 18 (prV v wb n))), kv (.bool true)]
            [.none, .none, .none, .none, .none, .none, .none, .none, .none, .none, .none]
            [some 24, some 25, some 26, some 27, some 28, some 29, some 30, some 31, some 32, some 33, some 34]
            [(0, .pointer (some ⟨t, 0, none⟩)), (3, .pointer (some ⟨gp, 0, none⟩)), (7, .int .i64 (k : Int))]
            [[], [.slot 0], [.slot 1], [.slot 2], [], [.slot 3, .slot 4], [.slot 5], [.slot 6], [], [.slot 8], [.slot 7, .slot 9]]
            [.slot 10] [24, 25, 26, 27, 28, 29, 30, 31, 32, 33, 34]
            rfl (by kernel_rfl) ⟨rfl, rfl, rfl, trivial⟩ (hB.drew) (Nat.le_refl _) trivial trivial (below_Gc7 (by have := hB.size; omega))
            ⟨
              (fun Q aq ww own hS hBg fr kn => .inl ⟨trivial, fun K hK => wp_value (exec_move rfl fr.1) (hK _ _ ⟨Touch.refl _ _, rfl⟩)⟩),
              (fun Q aq ww own hS hBg fr kn => .inl ⟨trivial, fun K hK => wp_value (exec_nilc rfl kn.1) (hK _ _ ⟨Touch.refl _ _, rfl⟩)⟩),
              (fun Q aq ww own hS hBg fr kn => .inl ⟨trivial, fun K hK => wp_value (exec_ftab rfl kn.1) (hK _ _ ⟨Touch.refl _ _, rfl⟩)⟩),
              (fun Q aq ww own hS hBg fr kn => .inl ⟨trivial, fun K hK => wp_value (exec_ld rfl kn.1 (ld_rows (HT.out ww hS))) (hK _ _ ⟨Touch.refl _ _, rfl⟩)⟩),
              (fun Q aq ww own hS hBg fr kn => .inl ⟨trivial, fun K hK => wp_value (exec_move rfl fr.2.2.1) (hK _ _ ⟨Touch.refl _ _, rfl⟩)⟩),
              (fun Q aq ww own hS hBg fr kn => .inl ⟨trivial, fun K hK => wp_value (exec_ixR (i := k) rfl kn.1 kn.2.1 hlt) (hK _ _ ⟨Touch.refl _ _, rfl⟩)⟩),
              (fun Q aq ww own hS hBg fr kn => .inl ⟨trivial, fun K hK => wp_value (exec_fro (k := 0) rfl kn.1 (by decide)) (hK _ _ ⟨Touch.refl _ _, rfl⟩)⟩),
              (fun Q aq ww own hS hBg fr kn => .inl ⟨trivial, fun K hK => wp_value (exec_ldP (j := k) rfl kn.1 (HC.out ww hS k hlt)) (hK _ _ ⟨Touch.refl _ _, rfl⟩)⟩),
              (fun Q aq ww own hS hBg fr kn => .inl ⟨trivial, fun K hK => wp_value (look_st rfl isPfx (HQ.out ww hS) fr.2.1) (hK _ _ ⟨Touch.refl _ _, rfl⟩)⟩),
              (fun Q aq ww own hS hBg fr kn => .inl ⟨trivial, fun K hK => stepc enterWhoR rfl (args1 kn.1) (HWH.out ww) (fun w' hb => hK _ _ ⟨touch_below hb, rfl⟩)⟩),
              (fun Q aq ww own hS hBg fr kn => .inl ⟨trivial, fun K hK => wp_value (exec_eqP rfl kn.1 kn.2.1 heq) (hK _ _ ⟨Touch.refl _ _, rfl⟩)⟩),
              trivial⟩ ?_
        intro vs own u6 hB6 hsz kn inj
        have eo : vs 34 = .bool true := kn.1
        clear kn inj hsz
        simp only [putAll, Act.put, List.setIfInBounds_toArray, List.set_cons_zero, List.set_cons_succ, eo]
        clear eo
        have hk1 : k + 1 ≤ m := by omega
        have ct := HT.out u6 hB6
        have co : u6.cell? ⟨g, 19 * k + 18, none⟩ = some (.int .i64 (ro k).o) := HC.out u6 hB6 k hlt 18 (by omega)
        have HS6 := Hid.mk (row_src (HTB.out u6 hB6).row)
        have hmc := HS6.out.1
        go_wp2_with (first | (refine wl_value rfl (exec_ixR (i := k) rfl (by rfl) (by rfl) hlt) ?_) | (refine wl_value rfl (exec_fro (k := 1) rfl (by rfl) (by decide)) ?_) | (refine wl_value rfl (exec_slHi rfl (by rfl) (by rfl) hk hmc) ?_) | (refine ap_nilR rfl rfl (by rfl) (by rfl) (src_hi HS6.out.2 hk) (by omega) ?_; intro xA wA rA hA; refine Hid.out ?_))
        refine Hid.mk ?_
        have hB9 : Below u1.heap.size u1 wA := hB6.trans (hA.mono hB6.size)
        have ct2 := HT.out wA hB9
        obtain ⟨sp, cq, hrun, hsrc⟩ := src_lo (HTB.out wA hB9).row hk1
        rw [show ((k + 1 : Nat) : Int) = (k : Int) + 1 by omega] at hrun
        have HSC := Hid.mk hsrc
        clear hsrc
        go_wp2_with (first | (refine wl_value rfl (exec_slL rfl (by rfl) (by rfl) hrun) ?_) | (refine ap_cutR rfl rfl (by rfl) (by rfl) rA HSC.out hk1 (by omega) hA.size ?_; intro xD wD rD hD; refine Hid.out ?_))
        refine Hid.mk ?_
        obtain ⟨pD, cD, exD, _⟩ := ownM_shape rD
        subst exD
        have hB10 : Below u1.heap.size u1 wD := hB9.trans (hD.mono hB6.size)
        have htD := HTB.out wD hB10
        have ctD := HT.out wD hB10
        have ftD : wD.frozen? ⟨t, 0, none⟩ = false := frozen_of_row wD t 0 _ _ htD.blk
        have HX : Hid (∃ x', TabD (wD.setCell ⟨t, 0, none⟩ (.slice pD (m - 1) cD)) B t x' (m - 1) (remZ k ro) ∧ Touch (TabT t (.slice (some ⟨g, 0, none⟩) m cap)) w (wD.setCell ⟨t, 0, none⟩ (.slice pD (m - 1) cD)) ∧ ∀ q, x'.ownBlock = some q → (Value.slice (some ⟨g, 0, none⟩) m cap).ownBlock = some q ∨ w.heap.size ≤ q) := Hid.mk (by
          have o9 : Only t wD (wD.setCell ⟨t, 0, none⟩ (.slice pD (m - 1) cD)) := only_set
          have hz2 := HBA.out.trans (hB10.mono HBA.out.size)
          have hN : B ≤ u6.heap.size := (HTB.out u6 hB6).hi
          exact ⟨(.slice pD (m - 1) cD), ⟨(htD.blk.set 0 (.slice pD (m - 1) cD) (by omega)).congr (fun i hi => by rw [if_pos (by omega)]), ownM_mono (ownM_block rD (fun q hq => o9.block q (by have := ownM_base rD q hq; have := htD.lo; omega))) hN, htD.lo, by rw [o9.size]; exact htD.hi⟩, ⟨o9.os.trans hz2.os, o9.tape.trans hz2.tape, o9.output.trans hz2.output, by rw [o9.size]; exact hz2.size, fun j hj hn => (o9.block j (fun e => hn (.inl e))).trans (hz2.block j hj)⟩, fun q hq => .inr (by have := ownM_base rD q hq; have := HBA.out.size; have := hB6.size; omega)⟩)
        clear htD
        go_wp2_with fail
        exact bodyPost_ret (res_tt rfl (by rfl) (by rfl)) rfl ⟨by rw [HE.out.1]; rfl, by rw [HE.out.2.1, HE.out.2.2]; exact HX.out⟩
    · have hkd : decide ((k : Int) < (m : Int)) = false := decide_eq_false (by omega)
      have HE : Hid (dropA ro m v wb n = .tuple #[.int .i64 0, .bool false] ∧ dropM ro m v wb n = m ∧ dropRo ro m v wb n = ro) := Hid.mk (by
        have e : ¬ drpF ro m v wb n < m := by rw [HPI.out, show m - k = 0 by omega, HPZ.out]; exact hlt
        unfold dropA dropM dropRo
        rw [if_neg e, if_neg e, if_neg e]
        exact ⟨rfl, rfl, rfl⟩)
      go_wp2_with (refine wl_value rfl (exec_lenR rfl (by rfl)) ?_)
      exact bodyPost_ret (res_tt rfl (by rfl) (by rfl)) rfl ⟨by rw [HE.out.1]; rfl, by rw [HE.out.2.1, HE.out.2.2]; exact HSAME.out _ hB⟩
end Go.Proofs.Ytcpnleanjclfjaa
/-
  Own text. The document's table as plain data: its rows stand in order, and Put and Drop keep them so.
-/
namespace Go.Proofs.Ytcpnleanjclfjaa
open Go.RowKit Go.Proofs
set_option maxRecDepth 100000
theorem lex_trans {b b2 b3 : Nat → Int} {r r2 r3 : Bool} (hr : r = true → r2 = true → r3 = true) : ∀ m i, lexF b b2 r i m = true → lexF b2 b3 r2 i m = true → lexF b b3 r3 i m = true
  | 0, _, h1, h2 => hr h1 h2
  | m + 1, i, h1, h2 => by
    unfold lexF at h1 h2 ⊢
    by_cases e1 : b i = b2 i
    · rw [if_pos e1] at h1
      by_cases e2 : b2 i = b3 i
      · rw [if_pos e2] at h2
        rw [if_pos (e1.trans e2)]
        exact lex_trans hr m (i + 1) h1 h2
      · rw [if_neg e2] at h2
        rw [if_neg (by rw [e1]; exact e2), e1]
        exact h2
    · rw [if_neg e1] at h1
      have l1 := of_decide_eq_true h1
      by_cases e2 : b2 i = b3 i
      · rw [if_neg (by rw [← e2]; exact e1), ← e2]
        exact h1
      · rw [if_neg e2] at h2
        have l2 := of_decide_eq_true h2
        rw [if_neg (by omega)]
        exact decide_eq_true (by omega)
theorem lex_irr (b : Nat → Int) : ∀ m i, lexF b b false i m = false
  | 0, _ => rfl
  | m + 1, i => by unfold lexF; rw [if_pos rfl]; exact lex_irr b m (i + 1)
theorem lex_tri {b b2 : Nat → Int} {r r2 : Bool} : ∀ m i, lexF b b2 r i m = true ∨ lexF b2 b r2 i m = true ∨ ((∀ j, i ≤ j → j < i + m → b j = b2 j) ∧ r = false ∧ r2 = false)
  | 0, _ => by
    show r = true ∨ r2 = true ∨ _
    cases r
    · cases r2
      · exact .inr (.inr ⟨fun j _ _ => by omega, rfl, rfl⟩)
      · exact .inr (.inl rfl)
    · exact .inl rfl
  | m + 1, i => by
    unfold lexF
    by_cases e : b i = b2 i
    · rw [if_pos e, if_pos e.symm]
      rcases lex_tri (b := b) (b2 := b2) (r := r) (r2 := r2) m (i + 1) with h | h | ⟨h, h1, h2⟩
      · exact .inl h
      · exact .inr (.inl h)
      · refine .inr (.inr ⟨fun j hj hk => ?_, h1, h2⟩)
        by_cases ej : j = i
        · rw [ej]; exact e
        · exact h j (by omega) (by omega)
    · rw [if_neg e, if_neg (fun x => e x.symm)]
      rcases Int.lt_or_lt_of_ne e with h | h
      · exact .inl (decide_eq_true h)
      · exact .inr (.inl (decide_eq_true h))
/-- A row's prefix stands ahead of another one's. -/
def Bf (r s : Rw) : Prop := beforeF r.v r.b r.n s.v s.b s.n = true
def Eqr (r s : Rw) : Prop := eqPF r.v r.b r.n s.v s.b s.n = true
theorem Bf.trans {r s q : Rw} (h1 : Bf r s) (h2 : Bf s q) : Bf r q := by
  unfold Bf beforeF at *
  by_cases e1 : r.v = s.v
  · rw [if_pos e1] at h1
    by_cases e2 : s.v = q.v
    · rw [if_pos e2] at h2
      rw [if_pos (e1.trans e2)]
      exact lex_trans (fun a c => decide_eq_true (by have := of_decide_eq_true a; have := of_decide_eq_true c; omega)) 16 0 h1 h2
    · rw [if_neg e2] at h2
      rw [if_neg (by rw [e1]; exact e2)]
      exact h2
  · rw [if_neg e1] at h1
    by_cases e2 : s.v = q.v
    · rw [if_neg (by rw [← e2]; exact e1), ← e2]
      exact h1
    · rw [if_neg e2] at h2
      exact absurd (h1.trans h2.symm) e2
theorem Bf.irr (r : Rw) : ¬ Bf r r := by
  unfold Bf beforeF
  rw [if_pos rfl, decide_eq_false (show ¬ r.n < r.n by omega), lex_irr]
  simp
theorem Bf.tri (r s : Rw) : Bf r s ∨ Bf s r ∨ Eqr r s := by
  unfold Bf Eqr beforeF
  rw [eqP_iff]
  by_cases e : r.v = s.v
  · rw [if_pos e, if_pos e.symm]
    rcases lex_tri (b := r.b) (b2 := s.b) (r := decide (r.n < s.n)) (r2 := decide (s.n < r.n)) 16 0 with h | h | ⟨h, h1, h2⟩
    · exact .inl h
    · exact .inr (.inl h)
    · have := of_decide_eq_false h1
      have := of_decide_eq_false h2
      exact .inr (.inr ⟨e, fun i hi => h i (by omega) (by omega), by omega⟩)
  · rw [if_neg e, if_neg (fun x => e x.symm)]
    cases hr : r.v
    · cases hs : s.v
      · exact absurd (hr.trans hs.symm) e
      · exact .inl rfl
    · exact .inr (.inl rfl)
theorem Eqr.not {r s : Rw} (h : Eqr r s) : ¬ Bf r s := by
  obtain ⟨e1, e2, e3⟩ := eqP_iff.1 h
  unfold Bf beforeF
  rw [if_pos e1, e3, decide_eq_false (show ¬ s.n < s.n by omega)]
  have : ∀ m i, i + m ≤ 16 → lexF r.b s.b false i m = false := by
    intro m
    induction m with
    | zero => intro i _; rfl
    | succ m ih => intro i hi; unfold lexF; rw [if_pos (e2 i (by omega))]; exact ih (i + 1) (by omega)
  rw [this 16 0 (by omega)]
  simp
/-- The rows stand in order. -/
def RSort (ro : Nat → Rw) (m : Nat) : Prop := ∀ i j, i < j → j < m → Bf (ro i) (ro j)
theorem first_all (p : Nat → Bool) : ∀ f k j, k ≤ j → j < firstF p k f → p j = true
  | 0, k, j, h1, h2 => by unfold firstF at h2; omega
  | f + 1, k, j, h1, h2 => by
    unfold firstF at h2
    by_cases e : p k = true
    · rw [if_pos e] at h2
      by_cases ej : j = k
      · rw [ej]; exact e
      · exact first_all p f (k + 1) j (by omega) h2
    · rw [if_neg e] at h2
      omega
theorem first_no (p : Nat → Bool) : ∀ f k, firstF p k f < k + f → p (firstF p k f) = false
  | 0, k, h => by unfold firstF at h; omega
  | f + 1, k, h => by
    unfold firstF at h ⊢
    by_cases e : p k = true
    · rw [if_pos e] at h ⊢
      exact first_no p f (k + 1) (by omega)
    · rw [if_neg e]
      simpa using e
theorem pos_le (ro : Nat → Rw) (m : Nat) (v : Bool) (b : Nat → Int) (n : Int) : posF ro m v b n ≤ m := by
  have := (first_range (bfP ro v b n) m 0).2
  unfold posF; omega
theorem put_sort {ro : Nat → Rw} {m : Nat} (h : RSort ro m) (v : Bool) (b : Nat → Int) (n ow : Int) : RSort (putRo ro m v b n ow) (putM ro m v b n) := by
  unfold putRo putM
  by_cases hi : isAt ro m (posF ro m v b n) v b n = true
  · rw [if_pos hi, if_pos hi]
    intro i j hij hj
    have key : ∀ x, (setG ro (posF ro m v b n) { ro (posF ro m v b n) with o := ow } x).v = (ro x).v ∧ (setG ro (posF ro m v b n) { ro (posF ro m v b n) with o := ow } x).b = (ro x).b ∧ (setG ro (posF ro m v b n) { ro (posF ro m v b n) with o := ow } x).n = (ro x).n := fun x => by
      by_cases e : x = posF ro m v b n
      · rw [e, gE]; exact ⟨rfl, rfl, rfl⟩
      · rw [gD _ _ _ e]; exact ⟨rfl, rfl, rfl⟩
    have := h i j hij hj
    unfold Bf at *
    rw [(key i).1, (key i).2.1, (key i).2.2, (key j).1, (key j).2.1, (key j).2.2]
    exact this
  · rw [if_neg hi, if_neg hi]
    by_cases hf : 64 ≤ m
    · rw [if_pos hf, if_pos hf]; exact h
    · rw [if_neg hf, if_neg hf]
      have hlow : ∀ j, j < posF ro m v b n → Bf (ro j) ⟨v, b, n, ow⟩ := fun j hj => first_all (bfP ro v b n) m 0 j (by omega) hj
      have hk := pos_le ro m v b n
      have hhigh : ∀ j, posF ro m v b n ≤ j → j < m → Bf ⟨v, b, n, ow⟩ (ro j) := fun j hj hjm => by
        have h0 : ¬ Bf (ro (posF ro m v b n)) ⟨v, b, n, ow⟩ := by
          have := first_no (bfP ro v b n) m 0 (show posF ro m v b n < 0 + m by omega)
          intro e
          exact absurd (e.symm.trans this) (by simp)
        have h1 : ¬ Eqr (ro (posF ro m v b n)) ⟨v, b, n, ow⟩ := fun e => hi (by
          unfold isAt
          rw [decide_eq_true (show posF ro m v b n < m by omega)]
          exact e)
        have h2 : Bf ⟨v, b, n, ow⟩ (ro (posF ro m v b n)) := ((Bf.tri _ _).resolve_left h0).resolve_right h1
        by_cases e : j = posF ro m v b n
        · rw [e]; exact h2
        · exact h2.trans (h _ j (by omega) hjm)
      generalize posF ro m v b n = k at *
      intro i j hij hj
      unfold insZ
      by_cases hi1 : i < k
      · rw [if_pos hi1]
        by_cases hj1 : j < k
        · rw [if_pos hj1]; exact h i j hij (by omega)
        · rw [if_neg hj1]
          by_cases hj2 : j = k
          · rw [if_pos hj2]; exact hlow i hi1
          · rw [if_neg hj2]; exact h i (j - 1) (by omega) (by omega)
      · rw [if_neg hi1, if_neg (show ¬ j < k by omega), if_neg (show ¬ j = k by omega)]
        by_cases hi2 : i = k
        · rw [if_pos hi2]; exact hhigh (j - 1) (by omega) (by omega)
        · rw [if_neg hi2]; exact h (i - 1) (j - 1) (by omega) (by omega)
theorem drop_sort {ro : Nat → Rw} {m : Nat} (h : RSort ro m) (v : Bool) (b : Nat → Int) (n : Int) : RSort (dropRo ro m v b n) (dropM ro m v b n) := by
  unfold dropRo dropM
  by_cases e : drpF ro m v b n < m
  · rw [if_pos e, if_pos e]
    generalize drpF ro m v b n = k at *
    intro i j hij hj
    unfold remZ
    by_cases hi : i < k
    · rw [if_pos hi]
      by_cases hjk : j < k
      · rw [if_pos hjk]; exact h i j hij (by omega)
      · rw [if_neg hjk]; exact h i (j + 1) (by omega) (by omega)
    · rw [if_neg hi, if_neg (show ¬ j < k by omega)]
      exact h (i + 1) (j + 1) (by omega) (by omega)
  · rw [if_neg e, if_neg e]; exact h
theorem put_m {ro : Nat → Rw} {m : Nat} (hm : m ≤ 64) (v : Bool) (b : Nat → Int) (n : Int) : putM ro m v b n ≤ 64 := by
  unfold putM
  split
  · exact hm
  · split <;> omega
theorem drop_m {ro : Nat → Rw} {m : Nat} (hm : m ≤ 64) (v : Bool) (b : Nat → Int) (n : Int) : dropM ro m v b n ≤ 64 := by
  unfold dropM
  split <;> omega
theorem right_n {v : Bool} {b : Nat → Int} {n : Int} (h : rightF v b n = true) : 0 ≤ n ∧ n ≤ 128 := by
  unfold rightF at h
  simp only [Bool.and_eq_true, Bool.or_eq_true, decide_eq_true_eq] at h
  omega
theorem whB_byts (b : Nat → Int) (n : Int) : Byts 16 (whB b n) := fun j _ => by
  have := acc_b b n j 8
  unfold whB
  omega
theorem put_ok {ro : Nat → Rw} {m : Nat} (h : ∀ j, j < m → RwOk (ro j)) {v : Bool} {b : Nat → Int} {n : Int} (ow : Int) (hr : rightF v b n = true) : ∀ j, j < putM ro m v (whB b n) n → RwOk (putRo ro m v (whB b n) n ow j) := by
  have hq : RwOk ⟨v, whB b n, n, ow⟩ := ⟨whB_byts b n, (right_n hr).1, (right_n hr).2⟩
  have hk := pos_le ro m v (whB b n) n
  unfold putRo putM
  by_cases hi : isAt ro m (posF ro m v (whB b n) n) v (whB b n) n = true
  · rw [if_pos hi, if_pos hi]
    intro j hj
    by_cases e : j = posF ro m v (whB b n) n
    · rw [e, gE]
      have := h (posF ro m v (whB b n) n) (by omega)
      exact ⟨this.b, this.n0, this.n1⟩
    · rw [gD _ _ _ e]; exact h j hj
  · rw [if_neg hi, if_neg hi]
    by_cases hf : 64 ≤ m
    · rw [if_pos hf, if_pos hf]; exact h
    · rw [if_neg hf, if_neg hf]
      intro j hj
      unfold insZ
      by_cases h1 : j < posF ro m v (whB b n) n
      · rw [if_pos h1]; exact h j (by omega)
      · rw [if_neg h1]
        by_cases h2 : j = posF ro m v (whB b n) n
        · rw [if_pos h2]; exact hq
        · rw [if_neg h2]; exact h (j - 1) (by omega)
theorem drop_ok {ro : Nat → Rw} {m : Nat} (h : ∀ j, j < m → RwOk (ro j)) (v : Bool) (b : Nat → Int) (n : Int) : ∀ j, j < dropM ro m v b n → RwOk (dropRo ro m v b n j) := by
  unfold dropRo dropM
  by_cases e : drpF ro m v b n < m
  · rw [if_pos e, if_pos e]
    intro j hj
    unfold remZ
    split
    · exact h j (by omega)
    · exact h (j + 1) (by omega)
  · rw [if_neg e, if_neg e]; exact h
end Go.Proofs.Ytcpnleanjclfjaa
/-
  Own text. Whose an address is, as plain data: the longest prefix that has it, and there is one such at most.
-/
namespace Go.Proofs.Ytcpnleanjclfjaa
open Go.RowKit Go.Proofs
set_option maxRecDepth 100000
def Has (r : Rw) (v : Bool) (b : Nat → Int) : Prop := hasF r.v r.b r.n v b = true
theorem find_spec (ro : Nat → Rw) (v : Bool) (b : Nat → Int) : ∀ m, (findF ro v b m = -1 ∧ ∀ j, j < m → ¬ Has (ro j) v b) ∨ ∃ k, k < m ∧ findF ro v b m = (k : Int) ∧ Has (ro k) v b ∧ ∀ j, j < m → Has (ro j) v b → (ro j).n ≤ (ro k).n
  | 0 => .inl ⟨rfl, fun j hj => by omega⟩
  | m + 1 => by
    have ih := find_spec ro v b m
    unfold findF
    by_cases hh : Has (ro m) v b
    · rcases ih with ⟨e, hn⟩ | ⟨k, hk, e, hk1, hk2⟩
      · rw [if_pos ⟨hh, .inl (by rw [e]; omega)⟩]
        refine .inr ⟨m, by omega, rfl, hh, fun j hj hj1 => ?_⟩
        by_cases ej : j = m
        · rw [ej]; exact Int.le_refl _
        · exact absurd hj1 (hn j (by omega))
      · have et : (findF ro v b m).toNat = k := by rw [e]; simp
        by_cases hlt : (ro k).n < (ro m).n
        · rw [if_pos ⟨hh, .inr (by rw [et]; exact hlt)⟩]
          refine .inr ⟨m, by omega, rfl, hh, fun j hj hj1 => ?_⟩
          by_cases ej : j = m
          · rw [ej]; exact Int.le_refl _
          · have := hk2 j (by omega) hj1
            omega
        · rw [if_neg (fun x => x.2.elim (fun y => by rw [e] at y; omega) (fun y => by rw [et] at y; exact hlt y))]
          refine .inr ⟨k, by omega, e, hk1, fun j hj hj1 => ?_⟩
          by_cases ej : j = m
          · rw [ej]; omega
          · exact hk2 j (by omega) hj1
    · rw [if_neg (fun x => hh x.1)]
      rcases ih with ⟨e, hn⟩ | ⟨k, hk, e, hk1, hk2⟩
      · refine .inl ⟨e, fun j hj => ?_⟩
        by_cases ej : j = m
        · rw [ej]; exact hh
        · exact hn j (by omega)
      · refine .inr ⟨k, by omega, e, hk1, fun j hj hj1 => ?_⟩
        by_cases ej : j = m
        · rw [ej] at hj1; exact absurd hj1 hh
        · exact hk2 j (by omega) hj1
theorem byte_bits {x y : Int} (hx : 0 ≤ x ∧ x < 256) (hy : 0 ≤ y ∧ y < 256) (h : ∀ t : Nat, t < 8 → (x / 2 ^ (7 - t)) % 2 = (y / 2 ^ (7 - t)) % 2) : x = y := by
  have h0 := h 0 (by omega)
  have h1 := h 1 (by omega)
  have h2 := h 2 (by omega)
  have h3 := h 3 (by omega)
  have h4 := h 4 (by omega)
  have h5 := h 5 (by omega)
  have h6 := h 6 (by omega)
  have h7 := h 7 (by omega)
  simp only [Nat.sub_zero, Nat.reduceSub, Int.reducePow] at h0 h1 h2 h3 h4 h5 h6 h7
  omega
theorem bits_same {b b2 : Nat → Int} (hb : Byts 16 b) (hb2 : Byts 16 b2) (h : ∀ i, i < 128 → bitF b i = bitF b2 i) : ∀ j, j < 16 → b j = b2 j := fun j hj => by
  refine byte_bits (hb j hj) (hb2 j hj) (fun t ht => ?_)
  have := h (8 * j + t) (by omega)
  unfold bitF at this
  rwa [show (8 * j + t) / 8 = j by omega, show (8 * j + t) % 8 = t by omega] at this
theorem wh_bit (b : Nat → Int) (n : Int) (i : Nat) : bitF (whB b n) i = if (i : Int) < n then bitF b i else 0 := by
  obtain ⟨j, t, ht, rfl⟩ : ∃ j t, t < 8 ∧ i = 8 * j + t := ⟨i / 8, i % 8, by omega, by omega⟩
  have hc : ∀ t : Nat, ∃ c : Int, (if ((8 * j + t : Nat) : Int) < n then bitF b (8 * j + t) else 0) = c ∧ 0 ≤ c ∧ c < 2 := fun t => ⟨_, rfl, by
    have := bit_b b (8 * j + t)
    split <;> omega⟩
  obtain ⟨c0, e0, l0⟩ := hc 0
  obtain ⟨c1, e1, l1⟩ := hc 1
  obtain ⟨c2, e2, l2⟩ := hc 2
  obtain ⟨c3, e3, l3⟩ := hc 3
  obtain ⟨c4, e4, l4⟩ := hc 4
  obtain ⟨c5, e5, l5⟩ := hc 5
  obtain ⟨c6, e6, l6⟩ := hc 6
  obtain ⟨c7, e7, l7⟩ := hc 7
  have ew : whB b n j = ((((((((0 * 2 + c0) * 2 + c1) * 2 + c2) * 2 + c3) * 2 + c4) * 2 + c5) * 2 + c6) * 2 + c7) := by
    unfold whB
    rw [accF, accF, accF, accF, accF, accF, accF, accF, accF, e0, e1, e2, e3, e4, e5, e6, e7]
  have el : bitF (whB b n) (8 * j + t) = (whB b n j / 2 ^ (7 - t)) % 2 := by
    unfold bitF
    rw [show (8 * j + t) / 8 = j by omega, show (8 * j + t) % 8 = t by omega]
  rw [el, ew]
  match t, ht with
  | 0, _ => rw [e0]; simp only [Nat.sub_zero, Int.reducePow]; omega
  | 1, _ => rw [e1]; simp only [Nat.reduceSub, Int.reducePow]; omega
  | 2, _ => rw [e2]; simp only [Nat.reduceSub, Int.reducePow]; omega
  | 3, _ => rw [e3]; simp only [Nat.reduceSub, Int.reducePow]; omega
  | 4, _ => rw [e4]; simp only [Nat.reduceSub, Int.reducePow]; omega
  | 5, _ => rw [e5]; simp only [Nat.reduceSub, Int.reducePow]; omega
  | 6, _ => rw [e6]; simp only [Nat.reduceSub, Int.reducePow]; omega
  | 7, _ => rw [e7]; simp only [Nat.sub_self, Int.reducePow]; omega
/-- A row whose prefix is whole: behind its bits come zeros. -/
structure RwW (r : Rw) : Prop where
  ok : RwOk r
  z : ∀ i : Nat, i < 128 → r.n ≤ (i : Int) → bitF r.b i = 0
theorem whole_w {v : Bool} {b : Nat → Int} {n : Int} (hr : rightF v b n = true) (ow : Int) : RwW ⟨v, whB b n, n, ow⟩ :=
  ⟨⟨whB_byts b n, (right_n hr).1, (right_n hr).2⟩, fun i _ hn => by
    show bitF (whB b n) i = 0
    rw [wh_bit, if_neg (by show ¬ (i : Int) < n; exact Int.not_lt.2 hn)]⟩
/-- Two whole prefixes of one length that have the same address are one. -/
theorem has_same {r s : Rw} (hr : RwW r) (hs : RwW s) {v : Bool} {b : Nat → Int} (h1 : Has r v b) (h2 : Has s v b) (hn : r.n = s.n) : Eqr r s := by
  obtain ⟨_, v1, b1⟩ := has_iff.1 h1
  obtain ⟨_, v2, b2⟩ := has_iff.1 h2
  refine eqP_iff.2 ⟨v1.trans v2.symm, bits_same hr.ok.b hs.ok.b (fun i hi => ?_), hn⟩
  by_cases e : (i : Int) < r.n
  · rw [b1 i e, b2 i (by omega)]
  · rw [hr.z i hi (by omega), hs.z i hi (by omega)]
/-- In a table in order no prefix stands twice. -/
theorem sort_one {ro : Nat → Rw} {m : Nat} (h : RSort ro m) {i j : Nat} (hi : i < m) (hj : j < m) (e : Eqr (ro i) (ro j)) : i = j := by
  rcases Nat.lt_trichotomy i j with l | l | l
  · exact absurd (h i j l hj) (Eqr.not e)
  · exact l
  · have e' : Eqr (ro j) (ro i) := by
      obtain ⟨a, c, d⟩ := eqP_iff.1 e
      exact eqP_iff.2 ⟨a.symm, fun x hx => (c x hx).symm, d.symm⟩
    exact absurd (h j i l hi) (Eqr.not e')
/-- What Find answers, told without the order of the rows. -/
theorem find_uniq {ro : Nat → Rw} {m : Nat} (hs : RSort ro m) (hw : ∀ j, j < m → RwW (ro j)) (v : Bool) (b : Nat → Int) {k : Nat} (hk : k < m) (h1 : Has (ro k) v b) (h2 : ∀ j, j < m → Has (ro j) v b → (ro j).n ≤ (ro k).n) : findF ro v b m = (k : Int) := by
  rcases find_spec ro v b m with ⟨_, hn⟩ | ⟨q, hq, e, q1, q2⟩
  · exact absurd h1 (hn k hk)
  · rw [e, sort_one hs hq hk (has_same (hw q hq) (hw k hk) q1 h1 (by have := q2 k hk h1; have := h2 q hq q1; omega))]
end Go.Proofs.Ytcpnleanjclfjaa
/-
  Own text. Two tables in order that have the same prefixes are the same, row by row.
-/
namespace Go.Proofs.Ytcpnleanjclfjaa
open Go.RowKit Go.Proofs
set_option maxRecDepth 100000
theorem Eqr.refl (r : Rw) : Eqr r r := eqP_iff.2 ⟨rfl, fun _ _ => rfl, rfl⟩
theorem Eqr.symm {r s : Rw} (e : Eqr r s) : Eqr s r := by
  obtain ⟨a, c, d⟩ := eqP_iff.1 e
  exact eqP_iff.2 ⟨a.symm, fun x hx => (c x hx).symm, d.symm⟩
theorem Eqr.trans {r s q : Rw} (e : Eqr r s) (f : Eqr s q) : Eqr r q := by
  obtain ⟨a, c, d⟩ := eqP_iff.1 e
  obtain ⟨a2, c2, d2⟩ := eqP_iff.1 f
  exact eqP_iff.2 ⟨a.trans a2, fun x hx => (c x hx).trans (c2 x hx), d.trans d2⟩
theorem lex_congr {b b2 c c2 : Nat → Int} {r : Bool} (h1 : ∀ i, i < 16 → b i = c i) (h2 : ∀ i, i < 16 → b2 i = c2 i) : ∀ m i, i + m ≤ 16 → lexF b b2 r i m = lexF c c2 r i m
  | 0, _, _ => rfl
  | m + 1, i, hi => by
    unfold lexF
    rw [h1 i (by omega), h2 i (by omega), lex_congr h1 h2 m (i + 1) (by omega)]
theorem Bf.congr {r s r' s' : Rw} (h : Bf r s) (e : Eqr r r') (f : Eqr s s') : Bf r' s' := by
  obtain ⟨a, c, d⟩ := eqP_iff.1 e
  obtain ⟨a2, c2, d2⟩ := eqP_iff.1 f
  unfold Bf beforeF at *
  rw [← a, ← a2, ← d, ← d2, ← lex_congr c c2 16 0 (by omega)]
  exact h
theorem Bf.not {r s : Rw} (h : Bf r s) (h2 : Bf s r) : False := Bf.irr r (h.trans h2)
theorem sort_less {ro : Nat → Rw} {m : Nat} (h : RSort ro (m + 1)) : RSort ro m := fun i j hij hj => h i j hij (by omega)
theorem sort_same : ∀ (m m' : Nat) {ro ro' : Nat → Rw}, RSort ro m → RSort ro' m' → (∀ i, i < m → ∃ j, j < m' ∧ Eqr (ro i) (ro' j)) → (∀ j, j < m' → ∃ i, i < m ∧ Eqr (ro i) (ro' j)) → m = m' ∧ ∀ j, j < m → Eqr (ro j) (ro' j)
  | 0, 0, _, _, _, _, _, _ => ⟨rfl, fun j hj => by omega⟩
  | 0, m' + 1, _, _, _, _, _, h2 => by
    obtain ⟨i, hi, _⟩ := h2 0 (by omega)
    omega
  | m + 1, 0, _, _, _, _, h1, _ => by
    obtain ⟨i, hi, _⟩ := h1 0 (by omega)
    omega
  | m + 1, m' + 1, ro, ro', s, s', h1, h2 => by
    have hl : Eqr (ro m) (ro' m') := by
      obtain ⟨j, hj, ej⟩ := h1 m (by omega)
      by_cases e : j = m'
      · rw [← e]; exact ej
      · have b1 := s' j m' (by omega) (by omega)
        obtain ⟨i, hi, ei⟩ := h2 m' (by omega)
        have b2 : Bf (ro m) (ro i) := b1.congr ej.symm ei.symm
        by_cases e2 : i = m
        · rw [e2] at b2; exact absurd b2 (Bf.irr _)
        · exact (b2.not (s i m (by omega) (by omega))).elim
    have ih := sort_same m m' (ro := ro) (ro' := ro') (sort_less s) (sort_less s') (fun i hi => by
      obtain ⟨j, hj, ej⟩ := h1 i (by omega)
      refine ⟨j, ?_, ej⟩
      by_cases e : j = m'
      · rw [e] at ej
        have := sort_one s (show i < m + 1 by omega) (show m < m + 1 by omega) (ej.trans hl.symm)
        omega
      · omega) (fun j hj => by
      obtain ⟨i, hi, ei⟩ := h2 j (by omega)
      refine ⟨i, ?_, ei⟩
      by_cases e : i = m
      · rw [e] at ei
        have := sort_one s' (show m' < m' + 1 by omega) (show j < m' + 1 by omega) (hl.symm.trans ei)
        omega
      · omega)
    refine ⟨by omega, fun j hj => ?_⟩
    by_cases e : j = m
    · rw [e]
      have := ih.1
      subst this
      exact hl
    · exact ih.2 j (by omega)
end Go.Proofs.Ytcpnleanjclfjaa
