/-
  Own text. What the windows of 64 and of 32 bits share: words are made, cleared; bits of a word.
-/
import Derived.Test.YtbkbcfimpaolmaaGreatJ5
import Derived.Lib.SliceRun
import Derived.Laws.Bits64b
import Derived.BigQuiet
import Derived.Test.YtbkbcfimpaolmaaGreatJ1
import Derived.Tactics
namespace Go.Proofs.YtbkbcfimpaolmaaGreat
open Go.RowKit Go.Proofs
set_option maxRecDepth 100000
theorem made_zero (n : Nat) : madeCells #[Value.int .u64 0] n = WA .u64 n (fun _ => 0) := by
  apply WA_ext
  · exact size_madeCells _ _
  · intro i hi
    simp [madeCells, hi, Nat.mod_one]
theorem run_makeW (n : Nat) (hn : n ≤ 1000) (w : World) : (Instr.makeSlice 78 (.int .i64 (n : Int)) (.int .i64 (n : Int))).run Tryz.prog w = .ok (.slice (some ⟨w.heap.size, 0, none⟩) n n) (w.alloc (.cells (WA .u64 n fun _ => 0) 31)) := by
  obtain ⟨i0, hi, hz0, hz1, hz2⟩ := info_parts infoU64
  have hm := run_make (P := Tryz.prog) w 78 31 i0 (.int .u64 0) Tryz.underlying78 hi hz0 .i64 .i64 (n : Int) (n : Int) (by omega) (Int.le_refl _) (by rw [hz2]; omega) (by omega)
  rw [hz1, Nat.mul_one, Int.toNat_natCast] at hm
  rw [hm]
  show Result.ok _ (w.alloc (.cells (madeCells #[Value.int .u64 0] n) 31)) = _
  rw [made_zero]
theorem wl_makeW {ops : Array Oper} {rest : List Oper} {d : Option Tmp} {x y : Operand} {ty : TypeId} {ps : String} {af : Array Edge} {a : Act} {w : World} {Q : Exit → Act → World → Prop} {n : Nat} (hx : a.eval x = .int .i64 (n : Int)) (hy : a.eval y = .int .i64 (n : Int)) (hn : n ≤ 1000)
    (h : ∀ w', ArrAt w' w.heap.size .u64 31 n (fun _ => 0) → Below w.heap.size w w' → wpList Tryz.prog ops Q rest (a.put d (.slice (some ⟨w.heap.size, 0, none⟩) n n)) w') :
    wpList Tryz.prog ops Q ({ dst := d, op := .makeSlice 78 x y, type := ty, pos := ps, after := af, guard := none } :: rest) a w := by
  have hr := run_makeW n hn w
  refine wl_act rfl ?_
  unfold Oper.wp execOp
  simp only [hx, hy, Sem.run_bind, hr, Result.andThen_ok, Sem.run_pure, Oper.upon]
  exact h _ (heap_alloc_new w _) ((Below.refl _ _).alloc (Nat.le_refl _) _)
set_option maxHeartbeats 1000000 in
theorem wordsFor_run (sz : Int) (hz : 1 ≤ sz ∧ sz ≤ 8192) (w : World) :
    Calls Tryz.prog 67 #[.int .i64 sz] w fun e w' => e = .returned (.slice (some ⟨w.heap.size, 0, none⟩) (wK sz) (wK sz)) ∧ ArrAt w' w.heap.size .u64 31 (wK sz) (fun _ => 0) ∧ Below w.heap.size w w' := by
  have hK := wK_le hz.2
  have hd : (sz + 64 - 2).tdiv 64 + 1 = (wK sz : Int) := by
    rw [Int.tdiv_eq_ediv_of_nonneg (by omega)]
    unfold wK
    omega
  have h1 : (sz + 64 - 2).tdiv 64 = (wK sz : Int) - 1 := by omega
  have hK0 := wK_pos sz
  generalize wK sz = K at *
  go_enter Tryz.func67, Tryz.ntmps67
  go_wp2_with (refine wl_makeW (n := K) (by simp [Act.eval]) (by simp [Act.eval]) (by omega) ?_; intro w' hA hB)
  go_ret
  exact ⟨rfl, hA, hB⟩
theorem and_bit {x : Int} (hx : U64 x) (i : Nat) (hi : i < 64) : ∃ y, bits .and .u64 x ((2 ^ i : Nat) : Int) = y ∧ (bt x i = !decide (y = 0)) := by
  unfold U64 at hx
  obtain ⟨a, rfl⟩ := Int.eq_ofNat_of_zero_le hx.1
  have h1 : 2 ^ i < 2 ^ 64 := Nat.pow_lt_pow_right (by omega) hi
  refine ⟨_, bits_and_u64_nat a (2 ^ i) (by omega) (by omega), ?_⟩
  unfold bt
  have hp : 0 < 2 ^ i := Nat.two_pow_pos i
  rw [Int.toNat_natCast]
  cases h : a.testBit i
  · have e : a &&& 2 ^ i = 0 := Nat.eq_of_testBit_eq fun j => by
      rw [Nat.testBit_and, Nat.testBit_two_pow, Nat.zero_testBit]
      by_cases e : i = j
      · subst e; rw [h]; simp
      · simp [e]
    rw [e]
    simp
  · have e : ¬ (a &&& 2 ^ i = 0) := fun e => by
      have := Nat.testBit_and a (2 ^ i) i
      rw [e, Nat.zero_testBit, h, Nat.testBit_two_pow] at this
      simp at this
    have e2 : ¬ (((a &&& 2 ^ i : Nat) : Int) = 0) := by omega
    simp only [e2, decide_false, Bool.not_false]
theorem u64_upd {K : Nat} {f : Nat → Int} {p : Nat} {v : Int} (h : ∀ j, j < K → U64 (f j)) (hv : U64 v) : ∀ j, j < K → U64 (upd f p v j) := fun j hj => by
  unfold upd; split
  · exact hv
  · exact h j hj
theorem touch_bg {b g : Nat} {u v w : World} (h : Touch (fun k => k = b ∨ k = g) u v) (k : Touch (fun k => k = b ∨ k = g) v w) : Touch (fun k => k = b ∨ k = g) u w :=
  ⟨k.os.trans h.os, k.tape.trans h.tape, k.output.trans h.output, Nat.le_trans h.size k.size, fun i hi hn => (k.block i (Nat.lt_of_lt_of_le hi h.size) hn).trans (h.block i hi hn)⟩
theorem below_dn (w : World) (m : Nat) : Below w.heap.size w (w.drewN m) := below_drewN (Below.refl _ _) m
theorem zeroU64 (w : World) : (zeroValue 31).run Tryz.prog w = .ok (.int .u64 0) w := by kernel_rfl
/-- clear of a row of words. -/
theorem wl_clear {ops : Array Oper} {rest : List Oper} {d : Option Tmp} {x : Operand} {ty t : TypeId} {ps : String} {af : Array Edge} {a : Act} {w : World} {Q : Exit → Act → World → Prop} {g K : Nat} {f : Nat → Int} (hx : a.eval x = .slice (some ⟨g, 0, none⟩) K K) (hK : 0 < K) (hg : ArrAt w g .u64 t K f)
    (h : ∀ w', ArrAt w' g .u64 t K (fun _ => 0) → Only g w w' → wpList Tryz.prog ops Q rest (a.put d (.tuple #[])) w') :
    wpList Tryz.prog ops Q ({ dst := d, op := .call { callee := .builtin .clear, args := #[x], argTypes := #[78] }, type := ty, pos := ps, after := af, guard := none } :: rest) a w := by
  have hr := Lib.run_clear_slice (P := Tryz.prog) w 78 31 ty (.int .u64 0) Tryz.underlying78 zeroU64 rfl rfl g 0 K K hK (fun j hj => by rw [Nat.zero_add, hg.cell j hj]; rfl) (fun j hj => hg.free _)
  obtain ⟨C', h1, h2, h3, h4, h5⟩ := setCells_heap (List.replicate K (Value.int .u64 0)) 0 w _ hg (by rw [WA_size]; simp)
  rw [WA_size] at h2
  have e : C' = WA .u64 K (fun _ => 0) := WA_ext h2 (fun i hi => by
    have := h3 i (by simpa using hi)
    rw [Nat.zero_add] at this
    rw [this]
    simp [hi])
  refine wl_act rfl ?_
  unfold Oper.wp
  simp [execOp, resolve, invoke, builtin, hx, hr, Result.andThen]
  exact h _ (by unfold ArrAt; rw [h1, e]) h5
theorem or_bit {x : Int} (hx : U64 x) (i : Nat) (hi : i < 64) : bits .or .u64 x ((2 ^ i : Nat) : Int) = ((x.toNat ||| 2 ^ i : Nat) : Int) := by
  unfold U64 at hx
  obtain ⟨a, rfl⟩ := Int.eq_ofNat_of_zero_le hx.1
  have h1 : 2 ^ i < 2 ^ 64 := Nat.pow_lt_pow_right (by omega) hi
  rw [bits_or_u64_nat a (2 ^ i) (by omega) (by omega), Int.toNat_natCast]
theorem load_sl {w : World} {p : Addr} {q : Option Addr} {n c : Nat} (h : w.cell? p = some (.slice q n c)) : (Instr.loadAt 78 (.pointer (some p))).run Tryz.prog w = .ok (.slice q n c) w := by
  simp [go_sem, h]
theorem load_u64 {w : World} {p : Addr} {n : Int} (h : w.cell? p = some (.int .u64 n)) : (Instr.loadAt 31 (.pointer (some p))).run Tryz.prog w = .ok (.int .u64 n) w := by
  simp [go_sem, h]
theorem size_u64 (w : World) : (sizeOf (Tryz.prog.elem 78)).run Tryz.prog w = .ok 1 w := by kernel_rfl
theorem exec_idxW {a : Act} {o : Oper} {w : World} {x y : Operand} (ho : o.op = .indexAddr 78 x y) {b n c i : Nat} (hx : a.eval x = .slice (some ⟨b, 0, none⟩) n c) (hy : a.eval y = .int .i64 (i : Int)) (hi : i < n) : (execOp a.eval o).run Tryz.prog w = .ok (.value (.pointer (some ⟨b, i, none⟩))) w := by
  have := exec_idx (w := w) ho Tryz.underlying78 size_u64 hx hy hi
  rw [Nat.zero_add] at this
  exact this
theorem exec_orW {a : Act} {o : Oper} {w : World} {x y : Operand} (ho : o.op = .binOp .or 31 x y 31) {m n z : Int} (hx : a.eval x = .int .u64 m) (hy : a.eval y = .int .u64 n) (hz : bits .or .u64 m n = z) : (execOp a.eval o).run Tryz.prog w = .ok (.value (.int .u64 z)) w :=
  exec_bin2 ho hx hy rfl (by simp [go_sem, hz])
theorem act_w64 {o : Oper} {a : Act} {w : World} {K : Act → World → Prop} {Q : Exit → Act → World → Prop} {x y : Operand} (ho : o.op = .store 31 x y) {g n i : Nat} {ty : TypeId} {s : Nat → Int} {v : Int} (hx : a.eval x = .pointer (some ⟨g, i, none⟩)) (hy : a.eval y = .int .u64 v)
    (hg : ArrAt w g .u64 ty n s) (hi : i < n) (h : ∀ w', ArrAt w' g .u64 ty n (upd s i v) → Only g w w' → K (a.put o.dst undef) w') : o.wp Tryz.prog a w K Q := by
  have hc := hg.cell i hi
  have hf := hg.free i
  have h' := h _ (hg.set i v hi) only_set
  unfold Oper.wp execOp
  simp only [ho, hx, hy]
  simp [go_sem, hc, hf]
  exact h'
theorem belT {T : Nat → Prop} {w w' : World} (h : Below w.heap.size w w') : Touch T w w' := ⟨h.os, h.tape, h.output, h.size, fun k hk _ => h.block k hk⟩
theorem exec_nil29 {a : Act} {o : Oper} {w : World} {x : Operand} {t : TypeId} (ho : o.op = .binOp .eql 78 x (.const (.slice none 0 0)) t) {p : Addr} {n c : Nat} (hx : a.eval x = .slice (some p) n c) : (execOp a.eval o).run Tryz.prog w = .ok (.value (.bool false)) w := by
  have h := Lib.run_eql_slice_nil (P := Tryz.prog) w 78 31 (some p) n c 0 0 Tryz.underlying78
  exact exec_bin2 ho hx rfl rfl h
theorem exec_max {a : Act} {o : Oper} {w : World} {x y : Operand} (ho : o.op = .call { callee := .builtin .max, args := #[x, y], argTypes := #[3, 3] }) {m n : Int} (hx : a.eval x = .int .i64 m) (hy : a.eval y = .int .i64 n) : (execOp a.eval o).run Tryz.prog w = .ok (.value (.int .i64 (max m n))) w := by
  have h : (if n > m then n else m) = max m n := by split <;> omega
  simp [execOp, ho, resolve, invoke, builtin, hx, hy, run_max_int2, h]
theorem exec_min {a : Act} {o : Oper} {w : World} {x y : Operand} (ho : o.op = .call { callee := .builtin .min, args := #[x, y], argTypes := #[3, 3] }) {m n : Int} (hx : a.eval x = .int .i64 m) (hy : a.eval y = .int .i64 n) : (execOp a.eval o).run Tryz.prog w = .ok (.value (.int .i64 (min m n))) w := by
  have h : (if n < m then n else m) = min m n := by split <;> omega
  simp [execOp, ho, resolve, invoke, builtin, hx, hy, run_min_int2, h]
/-- A rising row of numbers that are all among n is no longer than n. -/
theorem rising_le : ∀ {n m : Nat} {s f : Nat → Int}, (∀ i j, i < j → j < m → f i < f j) → (∀ i, i < m → ∃ j, j < n ∧ s j = f i) → m ≤ n
  | 0, m, s, f, _, h => by
    by_cases e : 0 < m
    · obtain ⟨j, hj, _⟩ := h 0 e
      omega
    · omega
  | n + 1, m, s, f, hr, h => by
    by_cases e : ∃ i, i < m ∧ f i = s n
    · obtain ⟨i0, hi0, he⟩ := e
      have := rising_le (n := n) (m := m - 1) (s := s) (f := fun i => if i < i0 then f i else f (i + 1)) (fun i j hij hj => by
        show (if i < i0 then f i else f (i + 1)) < (if j < i0 then f j else f (j + 1))
        by_cases a1 : j < i0
        · rw [if_pos (by omega), if_pos a1]; exact hr i j hij (by omega)
        · by_cases a2 : i < i0
          · rw [if_pos a2, if_neg a1]; exact hr i (j + 1) (by omega) (by omega)
          · rw [if_neg a2, if_neg a1]; exact hr (i + 1) (j + 1) (by omega) (by omega)) (fun i hi => by
        show ∃ j, j < n ∧ s j = (if i < i0 then f i else f (i + 1))
        by_cases a1 : i < i0
        · rw [if_pos a1]
          obtain ⟨j, hj, e1⟩ := h i (by omega)
          have h2 := hr i i0 a1 hi0
          refine ⟨j, ?_, e1⟩
          by_cases e2 : j = n
          · subst e2; omega
          · omega
        · rw [if_neg a1]
          obtain ⟨j, hj, e1⟩ := h (i + 1) (by omega)
          have h2 := hr i0 (i + 1) (by omega) (by omega)
          refine ⟨j, ?_, e1⟩
          by_cases e2 : j = n
          · subst e2; omega
          · omega)
      omega
    · have := rising_le (n := n) (m := m) (s := s) (f := f) hr (fun i hi => by
        obtain ⟨j, hj, e1⟩ := h i hi
        refine ⟨j, ?_, e1⟩
        by_cases e2 : j = n
        · subst e2; exact absurd ⟨i, hi, e1.symm⟩ e
        · omega)
      omega
/-- What Came has told, when it has come to the counter x. -/
structure CamI (n : Nat) (s : Nat → Int) (L x m : Nat) (f : Nat → Int) : Prop where
  few : m + L ≤ x
  up : ∀ i j, i < j → j < m → f i < f j
  mem : ∀ y, (∃ i, i < m ∧ f i = y) ↔ ((L : Int) ≤ y ∧ y < (x : Int) ∧ memb n s y = true)
theorem CamI.nil (n : Nat) (s f : Nat → Int) (L : Nat) : CamI n s L L 0 f := ⟨by omega, fun i j _ h => by omega, fun y => ⟨fun ⟨i, h, _⟩ => by omega, fun h => by omega⟩⟩
theorem CamI.no {n : Nat} {s : Nat → Int} {L x m : Nat} {f : Nat → Int} (h : CamI n s L x m f) (hx : memb n s (x : Int) = false) : CamI n s L (x + 1) m f := by
  refine ⟨by have := h.few; omega, h.up, fun y => (h.mem y).trans ⟨fun ⟨h1, h2, h3⟩ => ⟨h1, by omega, h3⟩, fun ⟨h1, h2, h3⟩ => ⟨h1, ?_, h3⟩⟩⟩
  by_cases e : y = (x : Int)
  · subst e; rw [hx] at h3; cases h3
  · omega
theorem CamI.yes {n : Nat} {s : Nat → Int} {L x m : Nat} {f : Nat → Int} (h : CamI n s L x m f) (hL : L ≤ x) (hx : memb n s (x : Int) = true) : CamI n s L (x + 1) (m + 1) (cat m f (fun _ => (x : Int))) := by
  have hlt : ∀ i, i < m → f i < (x : Int) := fun i hi => ((h.mem (f i)).1 ⟨i, hi, rfl⟩).2.1
  refine ⟨by have := h.few; omega, fun i j hij hj => ?_, fun y => ⟨?_, ?_⟩⟩
  · unfold cat
    rw [if_pos (by omega)]
    split
    · exact h.up i j hij (by omega)
    · exact hlt i (by omega)
  · rintro ⟨i, hi, rfl⟩
    unfold cat
    split
    · rename_i e
      obtain ⟨a1, a2, a3⟩ := (h.mem (f i)).1 ⟨i, e, rfl⟩
      exact ⟨a1, by omega, a3⟩
    · show (L : Int) ≤ (x : Int) ∧ (x : Int) < ((x + 1 : Nat) : Int) ∧ memb n s (x : Int) = true
      exact ⟨by omega, by omega, hx⟩
  · rintro ⟨h1, h2, h3⟩
    by_cases e : y = (x : Int)
    · exact ⟨m, by omega, by unfold cat; rw [if_neg (by omega)]; exact e.symm⟩
    · obtain ⟨i, hi, e2⟩ := (h.mem y).2 ⟨h1, by omega, h3⟩
      exact ⟨i, by omega, by unfold cat; rw [if_pos hi]; exact e2⟩
theorem CamI.end {n : Nat} {s : Nat → Int} {T m : Nat} {sz : Int} {f : Nat → Int} (hz : 0 ≤ sz) (hs : ∀ i, i < n → 0 ≤ s i ∧ s i < (T : Int)) (h : CamI n s (T - sz.toNat) T m f) : CameI s sz (T : Int) n m f := by
  refine ⟨rising_le (s := s) h.up (fun i hi => ?_), h.up, fun y => (h.mem y).trans ⟨?_, ?_⟩⟩
  · obtain ⟨_, _, h3⟩ := (h.mem (f i)).1 ⟨i, hi, rfl⟩
    obtain ⟨j, hj, e⟩ := memb_iff.1 h3
    exact ⟨j, hj, e⟩
  · rintro ⟨h1, h2, h3⟩
    obtain ⟨j, hj, e⟩ := memb_iff.1 h3
    exact ⟨j, hj, e, by omega⟩
  · rintro ⟨j, hj, rfl, h1⟩
    have := hs j hj
    exact ⟨by omega, this.2, memb_iff.2 ⟨j, hj, rfl⟩⟩
end Go.Proofs.YtbkbcfimpaolmaaGreat
/-
  Own text. The program's windows of numbers of 64 bits: in memory; Size, Top, low, place, bit, has.
-/
namespace Go.Proofs.YtbkbcfimpaolmaaGreat
open Go.RowKit Go.Proofs
set_option maxRecDepth 100000
/-- Block b is a window: its size (r, as it was given), its top T, its K words in block g. -/
structure WB64 (w : World) (b g : Nat) (r : Int) (T K : Nat) (f : Nat → Int) : Prop where
  blk : w.heap[b]? = some (.cells #[.int .i64 r, .int .u64 (T : Int), .slice (some ⟨g, 0, none⟩) K K] 103 (0, 0))
  row : ArrAt w g .u64 31 K f
  ne : b ≠ g
section
variable {w w' : World} {b g : Nat} {r : Int} {T K : Nat} {f : Nat → Int}
theorem WB64.c0 (h : WB64 w b g r T K f) : w.cell? ⟨b, 0, none⟩ = some (.int .i64 r) := cell_of_row w b 0 _ _ _ h.blk
theorem WB64.c1 (h : WB64 w b g r T K f) : w.cell? ⟨b, 1, none⟩ = some (.int .u64 (T : Int)) := cell_of_row w b 1 _ _ _ h.blk
theorem WB64.c2 (h : WB64 w b g r T K f) : w.cell? ⟨b, 2, none⟩ = some (.slice (some ⟨g, 0, none⟩) K K) := cell_of_row w b 2 _ _ _ h.blk
theorem WB64.lt (h : WB64 w b g r T K f) : b < w.heap.size := heap_lt h.blk
theorem WB64.kept (h : WB64 w b g r T K f) (hb : Below w.heap.size w w') : WB64 w' b g r T K f := ⟨(hb.block b h.lt).trans h.blk, h.row.kept hb, h.ne⟩
theorem WB64.same (h : WB64 w b g r T K f) (h1 : w'.heap[b]? = w.heap[b]?) (h2 : w'.heap[g]? = w.heap[g]?) : WB64 w' b g r T K f := ⟨h1.trans h.blk, h.row.block h2, h.ne⟩
end
set_option maxHeartbeats 1000000 in
theorem size64_run {w : World} {b : Nat} {r : Int} (c0 : w.cell? ⟨b, 0, none⟩ = some (.int .i64 r)) : Calls Tryz.prog 85 #[.pointer (some ⟨b, 0, none⟩)] w fun e w' => e = .returned (.int .i64 (max r 1)) ∧ w' = w := by
  go_enter Tryz.func85, Tryz.ntmps85
  by_cases h : r < 1
  · have hm : max r 1 = 1 := by omega
    go_wp2
    go_ret
    exact ⟨by rw [hm]; rfl, rfl⟩
  · have hm : max r 1 = r := by omega
    go_wp2
    go_ret
    exact ⟨by first | rfl | (rw [hm]; rfl), rfl⟩
set_option maxHeartbeats 1000000 in
theorem top64_run {w : World} {b : Nat} {T : Int} (c1 : w.cell? ⟨b, 1, none⟩ = some (.int .u64 T)) : Calls Tryz.prog 59 #[.pointer (some ⟨b, 0, none⟩)] w fun e w' => e = .returned (.int .u64 T) ∧ w' = w := by
  go_enter Tryz.func59, Tryz.ntmps59
  go_wp2
  go_ret
  exact ⟨rfl, rfl⟩
set_option maxHeartbeats 1000000 in
theorem low64_run {w : World} {b : Nat} {r sz : Int} {T : Nat} (c0 : w.cell? ⟨b, 0, none⟩ = some (.int .i64 r)) (c1 : w.cell? ⟨b, 1, none⟩ = some (.int .u64 (T : Int))) (hz : max r 1 = sz) (h2 : sz ≤ 8192) (hT : T < 18446744073709551616) :
    Calls Tryz.prog 82 #[.pointer (some ⟨b, 0, none⟩)] w fun e w' => e = .returned (.int .u64 (lowN sz T : Int)) ∧ w' = w := by
  have hrun := size64_run c0
  rw [hz] at hrun
  have h1 : 1 ≤ sz := by omega
  have HL := Hid.mk (show ((T : Int) > sz → (T : Int) - sz = (lowN sz T : Int)) ∧ ((T : Int) ≤ sz → (0 : Int) = (lowN sz T : Int)) by unfold lowN; omega)
  generalize lowN sz T = L at *
  go_enter Tryz.func82, Tryz.ntmps82
  go_wp2_with fail
  refine hrun.mono ?_
  rintro e v0 ⟨rfl, rfl⟩
  clear hrun c0 hz
  by_cases h : (T : Int) > sz
  · have hL := HL.out.1 h
    clear HL
    go_wp2_with fail
    go_ret
    exact ⟨by rw [← hL]; rfl, rfl⟩
  · have hL := HL.out.2 (by omega)
    clear HL
    go_wp2_with fail
    go_ret
    exact ⟨by rw [← hL]; rfl, rfl⟩
set_option maxHeartbeats 1000000 in
theorem place64_run {w : World} {b : Nat} {p : Option Addr} {K cp : Nat} (c : Nat) (hc : c < 18446744073709551616) (c2 : w.cell? ⟨b, 2, none⟩ = some (.slice p K cp)) (hK : 0 < K) (hK2 : K ≤ 1000) :
    Calls Tryz.prog 87 #[.pointer (some ⟨b, 0, none⟩), .int .u64 (c : Int)] w fun e w' => e = .returned (.int .i64 ((c / 64 % K : Nat) : Int)) ∧ w' = w := by
  have hm := Nat.mod_lt (c / 64) hK
  have e : wrap64 ((c : Int) / 64 % (K : Int)) = ((c / 64 % K : Nat) : Int) := by
    have e1 : (c : Int) / 64 % (K : Int) = ((c / 64 % K : Nat) : Int) := by simp
    rw [e1]
    unfold wrap64
    omega
  have HE := Hid.mk e
  clear e
  go_enter Tryz.func87, Tryz.ntmps87
  go_wp2
  go_ret
  exact ⟨by rw [← HE.out]; rfl, rfl⟩
set_option maxHeartbeats 1000000 in
theorem bit64_run (w : World) (c : Nat) (hc : c < 18446744073709551616) :
    Calls Tryz.prog 88 #[.int .u64 (c : Int)] w fun e w' => e = .returned (.int .u64 ((2 ^ (c % 64) : Nat) : Int)) ∧ w' = w := by
  have h1 : 2 ^ (c % 64) < 2 ^ 64 := Nat.pow_lt_pow_right (by omega) (by omega)
  have HE := Hid.mk (show IntKind.u64.wrap (2 ^ (c % 64)) = ((2 ^ (c % 64) : Nat) : Int) by
    rw [show (2 : Int) ^ (c % 64) = ((2 ^ (c % 64) : Nat) : Int) by simp]
    generalize (2 ^ (c % 64) : Nat) = q at *
    rw [IntKind.wrap_u64]
    omega)
  clear h1
  go_enter Tryz.func88, Tryz.ntmps88
  go_wp2
  go_ret
  exact ⟨by rw [← HE.out]; rfl, rfl⟩
end Go.Proofs.YtbkbcfimpaolmaaGreat
/-
  Own text. The program's windows of numbers of 64 bits: has, Fresh.
-/
namespace Go.Proofs.YtbkbcfimpaolmaaGreat
open Go.RowKit Go.Proofs
set_option maxRecDepth 100000
set_option maxHeartbeats 2000000 in
theorem has64_run {w : World} {b g : Nat} {r : Int} {T K : Nat} {f : Nat → Int} (hW : WB64 w b g r T K f) (c : Nat) (hc : c < 18446744073709551616) (hK : 0 < K) (hK2 : K ≤ 1000) (hf : U64 (f (c / 64 % K))) :
    Calls Tryz.prog 83 #[.pointer (some ⟨b, 0, none⟩), .int .u64 (c : Int)] w fun e w' => e = .returned (.bool (bt (f (c / 64 % K)) (c % 64))) ∧ ∃ m, w' = w.drewN m := by
  have c2 := hW.c2
  have hP : ∀ m, Calls Tryz.prog 87 #[.pointer (some ⟨b, 0, none⟩), .int .u64 (c : Int)] (w.drewN m) fun e w' => e = .returned (.int .i64 ((c / 64 % K : Nat) : Int)) ∧ w' = w.drewN m := fun m => place64_run c hc (show (w.drewN m).cell? ⟨b, 2, none⟩ = _ from c2) hK hK2
  have hQ : ∀ m, Calls Tryz.prog 88 #[.int .u64 (c : Int)] (w.drewN m) fun e w' => e = .returned (.int .u64 ((2 ^ (c % 64) : Nat) : Int)) ∧ w' = w.drewN m := fun m => bit64_run (w.drewN m) c hc
  have hm := Nat.mod_lt (c / 64) hK
  have cx := hW.row.cell _ hm
  have ha := and_bit hf (c % 64) (by omega)
  generalize bt (f (c / 64 % K)) (c % 64) = z at *
  generalize f (c / 64 % K) = x at *
  generalize c / 64 % K = p at *
  generalize ((2 ^ (c % 64) : Nat) : Int) = q at *
  clear hW hK2 hf
  obtain ⟨y, hy, hz⟩ := ha
  have hp1 : (p : Int) < (K : Int) := by omega
  cases z
  · have hy0 : y = 0 := by simpa using hz
    subst hy0
    clear hz
    go_enter Tryz.func83, Tryz.ntmps83
    go_wp2_with fail
    go_quiet (first | (go_at_call 87; exact Calls.quiet_of_same (hP _)) | (go_at_call 88; exact Calls.quiet_of_same (hQ _)))
    go_wp2_with fail
    go_ret
    exact ⟨rfl, _, rfl⟩
  · have hy0 : ¬ y = 0 := by simpa using hz
    clear hz
    go_enter Tryz.func83, Tryz.ntmps83
    go_wp2_with fail
    go_quiet (first | (go_at_call 87; exact Calls.quiet_of_same (hP _)) | (go_at_call 88; exact Calls.quiet_of_same (hQ _)))
    go_wp2_with fail
    go_ret
    exact ⟨by show Ending.returned (Value.bool (y != 0)) = _; rw [show (y != 0) = true by simpa using hy0], _, rfl⟩
theorem exec_nt64 {a : Act} {o : Oper} {w : World} {x : Operand} (ho : o.op = .unOp .xor 31 x) (hx : a.eval x = .int .u64 0) : (execOp a.eval o).run Tryz.prog w = .ok (.value (.int .u64 18446744073709551615)) w := by
  have h : bits .xor .u64 IntKind.u64.max 0 = 18446744073709551615 := by decide
  unfold execOp
  simp only [ho, hx]
  simp [go_sem]
  exact h
set_option maxHeartbeats 2000000 in
theorem fresh64_gen {w : World} {b g : Nat} {r sz : Int} {T : Nat} {f : Nat → Int} (hW : WB64 w b g r T (wK sz) f) (hz : max r 1 = sz) (h2 : sz ≤ 8192) (c : Nat) (hc : c < 18446744073709551616) (hT : T < 18446744073709551616) (hu : ∀ j, j < wK sz → U64 (f j)) :
    Calls Tryz.prog 63 #[.pointer (some ⟨b, 0, none⟩), .int .u64 (c : Int)] w fun e w' => e = .returned (.bool (!decide (c = 18446744073709551615) && (decide (T ≤ c) || (decide (lowN sz T ≤ c) && !bt (f (c / 64 % wK sz)) (c % 64))))) ∧ ∃ m, w' = w.drewN m := by
  have c1 := hW.c1
  have hL := low64_run hW.c0 c1 hz h2 hT
  have hH := has64_run hW c hc (wK_pos sz) (by have := wK_le h2; omega) (hu _ (Nat.mod_lt _ (wK_pos sz)))
  generalize bt (f (c / 64 % wK sz)) (c % 64) = z at *
  have hl : lowN sz T < 18446744073709551616 := by unfold lowN; omega
  generalize lowN sz T = L at *
  clear hW hu hz h2
  by_cases e1 : c = 18446744073709551615
  · subst e1
    go_enter Tryz.func63, Tryz.ntmps63
    go_wp2_with (refine wl_value rfl (exec_nt64 rfl (by rfl)) ?_)
    go_ret
    exact ⟨rfl, 0, rfl⟩
  · have d1 : decide (c = 18446744073709551615) = false := decide_eq_false e1
    have e2 : ¬ ((c : Int) = 18446744073709551615) := by omega
    by_cases e3 : T ≤ c
    · have d2 : decide (T ≤ c) = true := decide_eq_true e3
      have HD := Hid.mk (And.intro d1 d2)
      have e4 : ((T : Int) ≤ (c : Int)) := by omega
      clear d1 d2
      go_enter Tryz.func63, Tryz.ntmps63
      go_wp2_with (refine wl_value rfl (exec_nt64 rfl (by rfl)) ?_)
      go_ret
      exact ⟨by rw [HD.out.1, HD.out.2]; rfl, 0, rfl⟩
    · have d2 : decide (T ≤ c) = false := decide_eq_false e3
      have e4 : decide ((T : Int) ≤ (c : Int)) = false := decide_eq_false (by omega)
      by_cases e5 : L ≤ c
      · have d3 : decide (L ≤ c) = true := decide_eq_true e5
        have HD := Hid.mk (And.intro d1 (And.intro d2 d3))
        have e6 : ((L : Int) ≤ (c : Int)) := by omega
        clear d1 d2 d3
        go_enter Tryz.func63, Tryz.ntmps63
        go_wp2_with (refine wl_value rfl (exec_nt64 rfl (by rfl)) ?_)
        refine hL.mono ?_
        rintro e v0 ⟨rfl, rfl⟩
        go_wp2_with fail
        refine hH.mono ?_
        rintro e v1 ⟨rfl, m, rfl⟩
        go_wp2_with fail
        go_ret
        exact ⟨by rw [HD.out.1, HD.out.2.1, HD.out.2.2]; simp, m, rfl⟩
      · have d3 : decide (L ≤ c) = false := decide_eq_false e5
        have HD := Hid.mk (And.intro d1 (And.intro d2 d3))
        have e6 : decide ((L : Int) ≤ (c : Int)) = false := decide_eq_false (by omega)
        clear d1 d2 d3
        go_enter Tryz.func63, Tryz.ntmps63
        go_wp2_with (refine wl_value rfl (exec_nt64 rfl (by rfl)) ?_)
        refine hL.mono ?_
        rintro e v0 ⟨rfl, rfl⟩
        go_wp2_with fail
        go_ret
        exact ⟨by rw [HD.out.1, HD.out.2.1, HD.out.2.2]; simp, 0, rfl⟩
end Go.Proofs.YtbkbcfimpaolmaaGreat
/-
  Own text. The program's windows of numbers of 64 bits: clearBehind, moveTo.
-/
namespace Go.Proofs.YtbkbcfimpaolmaaGreat
open Go.RowKit Go.Proofs
set_option maxRecDepth 100000
theorem WB64.set {w : World} {b g : Nat} {r : Int} {T K : Nat} {f : Nat → Int} (h : WB64 w b g r T K f) (p : Nat) (v : Int) (hp : p < K) : WB64 (w.setCell ⟨g, p, none⟩ (.int .u64 v)) b g r T K (upd f p v) :=
  ⟨(only_set (w := w) (g := g)).block b h.ne |>.trans h.blk, h.row.set p v hp, h.ne⟩
theorem WB64.drew {w : World} {b g : Nat} {r : Int} {T K : Nat} {f : Nat → Int} (h : WB64 w b g r T K f) : WB64 w.drew b g r T K f := ⟨h.blk, h.row, h.ne⟩
set_option maxHeartbeats 4000000 in
theorem clr64_run {w : World} {b g : Nat} {r : Int} {T K n : Nat} {s f : Nat → Int} (hW : WB64 w b g r T K f) (hK : 0 < K) (hK2 : K ≤ 1000) (a c : Nat) (hac : a ≤ c) (hc : c < 18446744073709551616 / 64) (hu : ∀ j, j < K → U64 (f j)) (hB : Bts K a n s f) (hs : ∀ i, i < n → 0 ≤ s i ∧ s i < 64 * ((a : Int) + 1)) :
    Calls Tryz.prog 101 #[.pointer (some ⟨b, 0, none⟩), .int .u64 (a : Int), .int .u64 (c : Int)] w fun e w' => e = .returned (.tuple #[]) ∧ ∃ f', WB64 w' b g r T K f' ∧ (∀ j, j < K → U64 (f' j)) ∧ Bts K c n s f' ∧ Touch (fun k => k = g) w w' := by
  have c2 := hW.c2
  by_cases h : c - a ≥ K
  · have hs2 : ∀ i, i < n → s i / 64 + K ≤ c := fun i hi => by have := hs i hi; omega
    have HB := Hid.mk (bts_all (f := fun _ => 0) hs2 (fun _ _ => rfl))
    clear hs2 hB hs hu
    go_enter Tryz.func101, Tryz.ntmps101
    go_wp2_with (refine wl_clear (by rfl) hK hW.row ?_; intro v1 g1 o1)
    exact bodyPost_ret (results_none rfl _ _ _) rfl ⟨rfl, _, ⟨(o1.block b hW.ne).trans hW.blk, g1, hW.ne⟩, fun j hj => by unfold U64; omega, HB.out, touch_only o1⟩
  · have HU := Hid.mk hu
    have HB := Hid.mk hB
    have HS := Hid.mk hs
    have HW := Hid.mk hW
    have hd : decide ((K : Int) ≤ (c : Int) - (a : Int)) = false := decide_eq_false (by omega)
    clear hu hB hs hW
    go_enter Tryz.func101, Tryz.ntmps101
    go_wp2_with fail
    clear c2
    go_loopg [7] (c - a) (fun gm iv v => ∃ q : Nat, Hid (gm + q = c - a) ∧ iv = .int .u64 ((a + 1 + q : Nat) : Int) ∧ ∃ f', Hid (WB64 v b g r T K f' ∧ (∀ j, j < K → U64 (f' j)) ∧ Bts K (a + q) n s f' ∧ Touch (fun k => k = g) w v))
    case atStart => exact ⟨0, Hid.mk rfl, by simp, f, Hid.mk ⟨HW.out, HU.out, HB.out, Touch.refl _ _⟩⟩
    case round =>
      rename_i v
      obtain ⟨q, HQ, rfl, f', HI⟩ := hrel
      have c2 := HI.out.1.c2
      have hq : q ≤ c - a := by have := HQ.out; omega
      by_cases hlt : q < c - a
      · have hm := Nat.mod_lt (a + 1 + q) hK
        generalize hx : a + 1 + q = x at *
        have hl : ((x % K : Nat) : Int) < (K : Int) := by omega
        have fz := HI.out.1.row.free (x % K)
        have cz := HI.out.1.row.cell (x % K) hm
        have hx2 : (x : Int) ≤ (c : Int) := by omega
        go_wp2_with fail
        go_region
        have HN : Hid (WB64 (wr.setCell ⟨g, x % K, none⟩ (.int .u64 0)).drew b g r T K (upd f' (x % K) 0) ∧ (∀ j, j < K → U64 (upd f' (x % K) 0 j)) ∧ Bts K (a + (q + 1)) n s (upd f' (x % K) 0) ∧ Touch (fun k => k = g) w (wr.setCell ⟨g, x % K, none⟩ (.int .u64 0)).drew) := Hid.mk (by
          obtain ⟨i1, i2, i3, i4⟩ := HI.out
          refine ⟨(i1.set _ 0 hm).drew, u64_upd i2 (by unfold U64; omega), ?_, (Touch.trans i4 (touch_only only_set)).drew⟩
          have := bts_step i3 (fun i hi => by have := HS.out i hi; omega)
          rw [show a + q + 1 = x by omega] at this
          rw [show a + (q + 1) = x by omega]
          exact this)
        clear HI cz fz c2 hl hm
        go_wp2_with fail
        go_roundg (c - a - (q + 1))
        case rel => exact ⟨q + 1, Hid.mk (by omega), by rw [← hx]; simp [Int.add_assoc], _, HN⟩
        case measure => have := HQ.out; omega
      · generalize hx : a + 1 + q = x at *
        have hx2 : decide ((x : Int) ≤ (c : Int)) = false := decide_eq_false (by omega)
        go_wp2_with fail
        have hqe : a + q = c := by omega
        obtain ⟨i1, i2, i3, i4⟩ := HI.out
        rw [hqe] at i3
        exact bodyPost_end (results_none rfl _ _ _) rfl ⟨rfl, f', i1, i2, i3, i4⟩
theorem WB64.top {w : World} {b g : Nat} {r : Int} {T K : Nat} {f : Nat → Int} (h : WB64 w b g r T K f) (c : Nat) : WB64 (w.setCell ⟨b, 1, none⟩ (.int .u64 ((c : Int) + 1))) b g r (c + 1) K f := by
  refine ⟨?_, h.row.only only_set (Ne.symm h.ne), h.ne⟩
  have h2 := heap_setCell_same w b 1 _ _ (.int .u64 ((c : Int) + 1)) h.blk
  simpa using h2
set_option maxHeartbeats 4000000 in
theorem mov64_run {w : World} {b g : Nat} {r sz : Int} {T n : Nat} {s f : Nat → Int} (hW : WB64 w b g r T (wK sz) f) (hz : sz ≤ 8192) (hX : Words sz T n s f) (hs : ∀ i, i < n → 0 ≤ s i ∧ s i < T) (c : Nat) (hc : c + 1 < 18446744073709551616) (hT : T ≤ c) :
    Calls Tryz.prog 86 #[.pointer (some ⟨b, 0, none⟩), .int .u64 (c : Int)] w fun e w' => e = .returned (.tuple #[]) ∧ ∃ f', WB64 w' b g r (c + 1) (wK sz) f' ∧ (∀ j, j < wK sz → U64 (f' j)) ∧ Bts (wK sz) (c / 64) n s f' ∧ Touch (fun k => k = b ∨ k = g) w w' := by
  have c1 := hW.c1
  by_cases h0 : T = 0
  · subst h0
    have hB : Bts (wK sz) (c / 64) n s f := bts_all (fun i hi => by have := hs i hi; omega) (hX.zero rfl)
    have HN := Hid.mk (And.intro (hW.top c) (And.intro hX.u (And.intro hB (Touch.mono (touch_only (only_set (w := w) (g := b) (i := 1) (v := .int .u64 ((c : Int) + 1)))) (T' := fun k => k = b ∨ k = g) (fun k _ e => .inl e)))))
    have f1 := frozen_of_row w b 1 _ _ hW.blk
    clear hX hB hs hW
    go_enter Tryz.func86, Tryz.ntmps86
    go_wp2_with fail
    exact bodyPost_end (results_none rfl _ _ _) rfl ⟨rfl, f, HN.out⟩
  · have hB := hX.bits (by omega)
    have hrun := fun u (hu : WB64 u b g r T (wK sz) f) => clr64_run hu (wK_pos sz) (by have := wK_le hz; omega) ((T - 1) / 64) (c / 64) (by omega) (by omega) hX.u hB (fun i hi => by have := hs i hi; omega)
    have e1 : ((T : Int) - 1) / 64 = (((T - 1) / 64 : Nat) : Int) := by omega
    have e2 : (c : Int) / 64 = ((c / 64 : Nat) : Int) := by omega
    have hr := hrun w hW
    clear hrun hX hB hs
    have HE := Hid.mk (And.intro e1 e2)
    clear e1 e2
    go_enter Tryz.func86, Tryz.ntmps86
    go_wp2_with fail
    rw [HE.out.1, HE.out.2]
    refine hr.mono ?_
    rintro e v1 ⟨rfl, f', i1, i2, i3, i4⟩
    have c1 := i1.c1
    have f1 := frozen_of_row v1 b 1 _ _ i1.blk
    have HN := Hid.mk (And.intro (i1.top c) (And.intro i2 (And.intro i3 (touch_bg (Touch.mono i4 (T' := fun k => k = b ∨ k = g) (fun k _ e => .inr e)) (Touch.mono (touch_only (only_set (w := v1) (g := b) (i := 1) (v := .int .u64 ((c : Int) + 1)))) (T' := fun k => k = b ∨ k = g) (fun k _ e => .inl e))))))
    clear i1 i2 i3 i4 hr hW
    go_wp2_with fail
    exact bodyPost_end (results_none rfl _ _ _) rfl ⟨rfl, f', HN.out⟩
end Go.Proofs.YtbkbcfimpaolmaaGreat
/-
  Own text. The same as in Inv, where the region's last operation waits for all the others and stores: it is walked behind them. No program is named here.
-/
namespace Go.Proofs.YtbkbcfimpaolmaaGreat
open Go
section
variable {P : Program} {ops : Array Oper} {Q : Exit → Act → World → Prop}
/-- Each operation but the last one writes a slot of its own, and waits for earlier ones alone; the last one writes none, has no guard and waits for all. -/
def invB2 (ops : Array Oper) (m : Nat) : Bool :=
  decide (ops.size = m + 1) && (ops.toList.take m).all (fun o => o.dst.isSome) && decide (dsts ops).Nodup &&
  (List.range ops.size).all (fun i => match ops[i]? with
    | some o => o.after.all (fun e => !Region.binds .any e || decide (e.on < i))
    | none => true) &&
  (match ops[m]? with | some o => o.guard.isNone && (List.range m).all (fun j => predOf o j) | none => false)
/-- THE LAW. -/
theorem wp_region_last {id : Nat} {a0 : Act} {w0 : World} (m : Nat) (ol : Oper) (S : World → Prop) (R : World → World → Prop) (φ : Nat → Value → World → Prop) (hm : P.follows .mixedOrders = true) (hB : invB2 ops m = true) (hol : ops[m]? = some ol)
    (hS0 : S w0.drew) (hSR : ∀ w w', S w → R w w' → S w') (hφ : ∀ i v w w', φ i v w → R w w' → φ i v w')
    (step : ∀ (i : Nat) (o : Oper), i < m → ops[i]? = some o → ∀ (a : Act) (w : World), S w → (∀ t : Nat, (∀ (j : Nat) (oj : Oper), ops[j]? = some oj → oj.dst = some t → predOf oj i = true) → a.tmps[t]? = a0.tmps[t]?) →
      (∀ (j : Nat) (oj : Oper) (d : Nat), ops[j]? = some oj → oj.dst = some d → predOf o j = true → φ j (a.tmps.getD d undef) w) →
      wpOp P ops Q i (fun a' w' => ∃ v, a' = a.put o.dst v ∧ φ i v w' ∧ R w w') a w)
    (fin : ∀ (vs : Nat → Value) (w : World), S w → (∀ (i : Nat) (o : Oper) (d : Nat), i < m → ops[i]? = some o → o.dst = some d → φ i (vs d) w) → ol.wp P (putAll a0 vs (dsts ops)) w (fun a' w' => Q .normal a' w') Q)
    (hsz : ∀ d ∈ dsts ops, d < a0.tmps.size) : (Code.region id ops true).wp P Q a0 w0 := by
  simp only [invB2, Bool.and_eq_true, decide_eq_true_eq, hol] at hB
  obtain ⟨⟨⟨⟨hsize, hsome⟩, hnd⟩, hord⟩, hgn, hwait⟩ := hB
  refine wp_region_any hm (wpAny_inv (fun listed a w => (Mid ops a0 S φ listed a w ∧ listed.getD m false = false) ∨ ((∀ i, i < ops.size → listed.getD i true = true) ∧ Q .normal a w)) ?_ ?_ ops.size _ a0 _ ?_ ?_)
  · intro listed a w i inv hi
    obtain ⟨hun, oi, hoi, hall⟩ := mem_ready.1 hi
    have hils : i < listed.size := by
      rcases Nat.lt_or_ge i listed.size with h | h
      · exact h
      · simp [Array.getElem?_eq_none h] at hun
    have hilt : i < ops.size := (Array.getElem?_eq_some_iff.1 hoi).1
    have hunf : listed.getD i false = false := by simp [hils] at hun ⊢; exact hun
    rcases inv with ⟨mid, hnl⟩ | ⟨hdone, _⟩
    · by_cases him : i = m
      · subst him
        obtain rfl : oi = ol := Option.some.inj (hoi.symm.trans hol)
        have hlist : ∀ j, j < i → listed.getD j false = true := fun j hj => by
          have h1 := List.all_eq_true.1 hwait j (List.mem_range.2 hj)
          obtain ⟨e, he, hb⟩ := Array.any_eq_true'.1 h1
          simp only [Bool.and_eq_true, beq_iff_eq] at hb
          have h2 := hall e he hb.1
          rwa [hb.2] at h2
        have hq := fin (fun d => a.tmps.getD d undef) w mid.world (fun j o d hj ho hd => mid.known j o d ho hd (hlist j hj))
        have ha : putAll a0 (fun d => a.tmps.getD d undef) (dsts ops) = a := by
          have h1 := putAll_defers (fun d => a.tmps.getD d undef) (dsts ops) a0
          have h2 : (putAll a0 (fun d => a.tmps.getD d undef) (dsts ops)).tmps = a.tmps := by
            apply Array.ext_getElem?
            intro t
            by_cases ht : t < a0.tmps.size
            · rw [putAll_get _ _ _ _ ht]
              by_cases hm2 : t ∈ dsts ops
              · rw [if_pos hm2]
                have : t < a.tmps.size := by rw [mid.size]; exact ht
                simp [this]
              · rw [if_neg hm2]
                exact (mid.frame t (fun i o hi _ hd => hm2 (List.mem_filterMap.2 ⟨o, by simpa using Array.mem_of_getElem? hi, hd⟩))).symm
            · rw [Array.getElem?_eq_none (by rw [putAll_size]; omega), Array.getElem?_eq_none (by rw [mid.size]; omega)]
          rw [← mid.defers] at h1
          generalize putAll a0 (fun d => a.tmps.getD d undef) (dsts ops) = b at h1 h2
          cases a; cases b
          simp only at h1 h2
          rw [h1, h2]
        rw [ha] at hq
        have hw : Region.wanted oi (yielded ops a.tmps) = true := by
          unfold Region.wanted
          cases hgd : oi.guard with
          | none => rfl
          | some x => rw [hgd] at hgn; simp at hgn
        have hlsz : listed.size = ops.size := mid.lsize
        unfold wpOp
        simp only [hoi, hw, if_true]
        refine .inl (Oper.wp_mono (fun a' w' h => .inr ⟨fun j hj => ?_, h⟩) hq)
        by_cases hji : i = j
        · subst hji; simp [hils]
        · rw [getD_set_ne true hji]
          have h1 := hlist j (by omega)
          have hjl : j < listed.size := by omega
          simp [hjl] at h1 ⊢; exact h1
      · have hlt : i < m := by omega
        have hst := step i oi hlt hoi a w mid.world
          (fun t ht => mid.frame t (fun j oj hj hl hd => by
            obtain ⟨e, he, hb⟩ := Array.any_eq_true'.1 (ht j oj hj hd)
            simp only [Bool.and_eq_true, beq_iff_eq] at hb
            have := mid.closed j oj hj hl e he hb.1
            rw [hb.2, hunf] at this
            cases this))
          (fun j oj d hj hd hp => by
            obtain ⟨e, he, hb⟩ := Array.any_eq_true'.1 hp
            simp only [Bool.and_eq_true, beq_iff_eq] at hb
            have := hall e he hb.1
            rw [hb.2] at this
            exact mid.known j oj d hj hd this)
        refine wpOp_mono (fun a' w' h' => ?_) hst
        obtain ⟨v, rfl, hv, hR⟩ := h'
        have hsi : oi.dst.isSome = true := List.all_eq_true.1 hsome oi (List.mem_of_getElem? (i := i) (by rw [List.getElem?_take, if_pos hlt]; simpa using hoi))
        obtain ⟨di, hdi⟩ := Option.isSome_iff_exists.1 hsi
        have hmem : di ∈ dsts ops := List.mem_filterMap.2 ⟨oi, by simpa using Array.mem_of_getElem? hoi, hdi⟩
        have hdlt : di < a.tmps.size := by rw [mid.size]; exact hsz di hmem
        have hself : (listed.setIfInBounds i true).getD i false = true := by simp [hils]
        rw [hdi]
        refine .inl ⟨⟨by simp [mid.lsize], fun j oj hj hl e he hb => ?_, by simpa [Act.put] using mid.size, mid.defers, hSR w w' mid.world hR, fun t ht => ?_, fun j oj d hj hd hl => ?_⟩, by rw [getD_set_ne false him]; exact hnl⟩
        · rcases getD_set_false hl with rfl | hl
          · obtain rfl : oj = oi := Option.some.inj (hj.symm.trans hoi)
            have h1 := hall e he hb
            by_cases hie : j = e.on
            · rw [hie]; rw [hie] at hself; exact hself
            · rw [getD_set_ne false hie]; exact h1
          · have h1 := mid.closed j oj hj hl e he hb
            by_cases hie : i = e.on
            · rw [← hie]; exact hself
            · rw [getD_set_ne false hie]; exact h1
        · have hne : di ≠ t := fun h => ht i oi hoi hself (by rw [hdi, h])
          rw [show (a.put (some di) v).tmps[t]? = a.tmps[t]? from by simp [Act.put, hne]]
          exact mid.frame t (fun j oj hj hl => ht j oj hj (by
            by_cases hij : i = j
            · subst hij; exact hself
            · rw [getD_set_ne false hij]; exact hl))
        · rcases getD_set_false hl with rfl | hl
          · obtain rfl : oj = oi := Option.some.inj (hj.symm.trans hoi)
            obtain rfl : d = di := Option.some.inj (hd.symm.trans hdi)
            rw [show (a.put (some d) v).tmps.getD d undef = v from by simp [Act.put, hdlt]]
            exact hv
          · have hne : di ≠ d := fun h => by
              subst h
              have := nodup_dst hnd hoi hj hdi hd
              subst this
              rw [hunf] at hl
              cases hl
            rw [show (a.put (some di) v).tmps.getD d undef = a.tmps.getD d undef from by simp [Act.put, hne]]
            exact hφ j _ w w' (mid.known j oj d hj hd hl) hR
    · have := hdone i hilt
      rw [hun] at this
      cases this
  · intro listed a w inv hr
    rcases inv with ⟨mid, hnl⟩ | ⟨_, hq⟩
    · exfalso
      have hall : ∀ n i, i < n → i < ops.size → listed.getD i false = true := by
        intro n
        induction n with
        | zero => intro i h; cases h
        | succ n ih =>
          intro i hin hil
          by_cases hlt : i < n
          · exact ih i hlt hil
          · have hin' : i = n := by omega
            subst hin'
            cases hg : listed.getD i false with
            | true => rfl
            | false =>
              have ho : ops[i]? = some ops[i] := Array.getElem?_eq_getElem hil
              have h1 := List.all_eq_true.1 hord i (List.mem_range.2 hil)
              simp only [ho] at h1
              have hin2 : i ∈ Region.ready .any ops listed := mem_ready.2 ⟨by
                have : i < listed.size := by rw [mid.lsize]; exact hil
                simp [this] at hg ⊢; exact hg, _, ho, fun e he hb => by
                have h2 := Array.all_eq_true'.1 h1 e he
                simp only [hb, Bool.not_true, Bool.false_or, decide_eq_true_eq] at h2
                exact ih e.on h2 (by omega)⟩
              rw [hr] at hin2
              cases hin2
      have h1 := hall (m + 1) m (by omega) (by omega)
      rw [hnl] at h1
      cases h1
    · exact hq
  · unfold leftOf
    exact Nat.le_trans (List.length_filter_le _ _) (by simp)
  · exact .inl ⟨⟨by simp, fun j oj _ hl => (by rw [getD_replicate_f] at hl; cases hl), rfl, rfl, hS0, fun _ _ => rfl, fun i o d _ _ hl => (by rw [getD_replicate_f] at hl; cases hl)⟩, getD_replicate_f _ _⟩
/-- The last operation's walk, behind a name that is not looked through. -/
structure Last (P : Program) (Q : Exit → Act → World → Prop) (ol : Oper) (a : Act) (w : World) : Prop where
  out : ol.wp P a w (fun a' w' => Q .normal a' w') Q
theorem eval_putAll {a : Act} {vs : Nat → Value} {l : List Nat} {t : Nat} (ht : t ∈ l) (hs : t < a.tmps.size) : (putAll a vs l).eval (.tmp t) = vs t := by
  simp only [Act.eval]
  rw [Array.getD_eq_getD_getElem?, putAll_get vs l a t hs, if_pos ht]
  rfl
/-- Do the tables fit the region, but for its last operation? -/
def tabB2 (ops : Array Oper) (m : Nat) (ds : List Nat) (base : List Nat) (p : List (List Nat)) : Bool :=
  ((ops.toList.take m).map (·.dst) == ds.map some) && base.all (fun t => !ds.contains t) &&
  (List.range m).all (fun k => match ops[k]? with
    | some o => (p.getD k []).all (fun j => predOf o j && decide (j < m)) && (match o.guard with | some (g, _) => decide (g < m) | none => true)
    | none => true) && (match ops[m]? with | some o => o.dst.isNone | none => false)
/-- THE LAW, operation by operation. -/
theorem wp_region_steps2 {id : Nat} {a0 : Act} {w0 : World} (m : Nat) (ol : Oper) (S : World → Prop) (R : World → World → Prop) (φ : Nat → Value → World → Prop) (ds : List Nat) (base : List (Nat × Value)) (p : List (List Nat))
    (hm : P.follows .mixedOrders = true) (hB : (invB2 ops m && tabB2 ops m ds (base.map (·.1)) p && ds.all (fun d => decide (d < a0.tmps.size))) = true) (hdrop : ops.toList.drop m = [ol])
    (hb0 : Holds a0 base) (hS0 : S w0.drew) (hSR : ∀ w w', S w → R w w' → S w') (hφ : ∀ i v w w', φ i v w → R w w' → φ i v w')
    (steps : AllSteps P S R φ ds base p 0 (ops.toList.take m))
    (fin : ∀ (vs : Nat → Value) (w : World), S w → (∀ j : Nat, j < ds.length → φ j (vs (ds.getD j 0)) w) → Last P Q ol (putAll a0 vs ds) w) : (Code.region id ops true).wp P Q a0 w0 := by
  have hol : ops[m]? = some ol := by
    rw [← Array.getElem?_toList]
    have h := congrArg (fun l => l[0]?) hdrop
    simpa [List.getElem?_drop] using h
  simp only [Bool.and_eq_true] at hB
  obtain ⟨⟨hI, hT⟩, hsz⟩ := hB
  have hsize : ops.size = m + 1 := by
    simp only [invB2, Bool.and_eq_true, decide_eq_true_eq] at hI
    exact hI.1.1.1.1
  simp only [tabB2, Bool.and_eq_true, beq_iff_eq, hol] at hT
  obtain ⟨⟨⟨hds, hbase⟩, htab⟩, hnone⟩ := hT
  have hnone' : ol.dst = none := by simpa using hnone
  have hm1 : m < ops.size := by omega
  have hat : ∀ (j : Nat) (oj : Oper), j < m → ops[j]? = some oj → (ops.toList.take m)[j]? = some oj := fun j oj hj ho => by
    rw [List.getElem?_take, if_pos hj]; simpa using ho
  have hdst : ∀ (j : Nat) (oj : Oper), j < m → ops[j]? = some oj → oj.dst = some (ds.getD j 0) ∧ j < ds.length := fun j oj hjm hj => by
    have h1 : ((ops.toList.take m).map (·.dst))[j]? = some oj.dst := by rw [List.getElem?_map, hat j oj hjm hj]; rfl
    rw [hds, List.getElem?_map] at h1
    cases hq : ds[j]? with
    | none => rw [hq] at h1; simp at h1
    | some d =>
      rw [hq] at h1
      have hl : j < ds.length := (List.getElem?_eq_some_iff.1 hq).1
      refine ⟨?_, hl⟩
      rw [List.getD_eq_getElem?_getD, hq]
      simpa using h1.symm
  have hlt : ∀ (j : Nat) (oj : Oper) (d : Nat), ops[j]? = some oj → oj.dst = some d → j < m := fun j oj d hj hd => by
    have h1 : j < ops.size := (Array.getElem?_eq_some_iff.1 hj).1
    by_cases e : j = m
    · subst e
      obtain rfl : oj = ol := Option.some.inj (hj.symm.trans hol)
      rw [hnone'] at hd
      cases hd
    · omega
  have hdsts : dsts ops = ds := by
    unfold dsts
    have hsplit : ops.toList = ops.toList.take m ++ [ol] := by
      have h1 := (List.take_append_drop m ops.toList).symm
      have h2 : ops.toList.drop m = [ol] := by
        have hl : m < ops.toList.length := by simpa using hm1
        rw [List.drop_eq_getElem_cons hl, List.drop_of_length_le (by rw [Array.length_toList]; omega)]
        have h3 : ops.toList[m]? = some ol := by simpa using hol
        rw [List.getElem?_eq_getElem hl] at h3
        rw [Option.some.inj h3]
      rw [h2] at h1
      exact h1
    rw [hsplit, List.filterMap_append]
    have h1 : (ops.toList.take m).filterMap (·.dst) = ((ops.toList.take m).map (·.dst)).filterMap (fun x => x) := by rw [List.filterMap_map]; rfl
    rw [h1, hds, List.filterMap_map]
    have h4 : ([ol].filterMap fun o => o.dst) = [] := by simp [hnone']
    rw [h4, List.append_nil]
    exact List.filterMap_some
  refine wp_region_last m ol S R φ hm hI hol hS0 hSR hφ (fun i o him hi a w hS hfr hkn => ?_) (fun vs w hS h => ?_) (fun d hd => by rw [hdsts] at hd; simpa using List.all_eq_true.1 hsz d hd)
  · have hil : i < ops.size := (Array.getElem?_eq_some_iff.1 hi).1
    have ht := List.all_eq_true.1 htab i (List.mem_range.2 him)
    simp only [hi, Bool.and_eq_true] at ht
    have st := AllSteps.at (ops.toList.take m) p 0 steps i o (hat i o him hi)
    rw [Nat.zero_add] at st
    obtain ⟨hg, hk⟩ := st Q a w hS
      (holds_of base (fun t htm => eval_tmp_of (hfr t (fun j oj hj hd => by
        exfalso
        have h1 := List.all_eq_true.1 hbase t htm
        have h2 := (hdst j oj (hlt j oj t hj hd) hj).1
        rw [hd] at h2
        have h3 : t = ds.getD j 0 := Option.some.inj h2
        have h4 : t ∈ ds := by
          rw [h3, List.getD_eq_getElem?_getD, List.getElem?_eq_getElem (hdst j oj (hlt j oj t hj hd) hj).2]
          simp
        simp [h4] at h1))) hb0)
      (knows_of _ (fun j hj => by
        have h1 := List.all_eq_true.1 ht.1 j hj
        simp only [Bool.and_eq_true, decide_eq_true_eq] at h1
        have hoj : ops[j]? = some (ops[j]'(by omega)) := Array.getElem?_eq_getElem (by omega)
        have h2 := hkn j _ _ hoj (hdst j _ h1.2 hoj).1 h1.1
        simpa [Act.eval] using h2))
    have hw : Region.wanted o (yielded ops a.tmps) = true := by
      unfold Region.wanted
      cases hgd : o.guard with
      | none => rfl
      | some x =>
        obtain ⟨g, b⟩ := x
        rw [hgd] at hg
        have h2 := ht.2
        rw [hgd] at h2
        simp only [decide_eq_true_eq] at h2
        have hog : ops[g]? = some (ops[g]'(by omega)) := Array.getElem?_eq_getElem (by omega)
        have hd := (hdst g _ h2 hog).1
        have h4 : a.tmps[ds.getD g 0]? = some (.bool b) := by
          simp only [Act.eval] at hg
          rw [Array.getD_eq_getD_getElem?] at hg
          cases hq : a.tmps[ds.getD g 0]? with
          | none => rw [hq] at hg; simp [undef] at hg
          | some v => rw [hq] at hg; simpa using hg
        have hy : yielded ops a.tmps g = some b := by
          unfold yielded
          rw [hog]
          simp only [Option.bind_some, hd, h4]
        simp [hy]
    unfold wpOp
    simp only [hi, hw, if_true]
    exact .inl (hk _ (fun v w' h1 h2 => ⟨v, rfl, h1, h2⟩))
  · rw [hdsts]
    refine (fin vs w hS (fun j hj => ?_)).out
    have hlen : (ops.toList.take m).length = ds.length := by have := congrArg List.length hds; simpa using this
    have hjm : j < m := by rw [← hlen, List.length_take] at hj; omega
    have hoj : ops[j]? = some (ops[j]'(by omega)) := Array.getElem?_eq_getElem (by omega)
    exact h j _ _ hjm hoj (hdst j _ hjm hoj).1
end
end Go.Proofs.YtbkbcfimpaolmaaGreat
/-
  Own text. The program's windows of numbers of 64 bits: Take.
-/
namespace Go.Proofs.YtbkbcfimpaolmaaGreat
open Go.RowKit Go.Proofs
set_option maxRecDepth 100000
theorem enterPlc64 (args : Array Value) (w : World) : (callFunc 87 args).run Tryz.prog w = .ok (.enter 87 args) w := by kernel_rfl
theorem enterBit64 (args : Array Value) (w : World) : (callFunc 88 args).run Tryz.prog w = .ok (.enter 88 args) w := by kernel_rfl
theorem exec_fw64 {a : Act} {o : Oper} {w : World} {x : Operand} (ho : o.op = .fieldAddr 103 x 2) {b : Nat} (hx : a.eval x = .pointer (some ⟨b, 0, none⟩)) : (execOp a.eval o).run Tryz.prog w = .ok (.value (.pointer (some ⟨b, 2, none⟩))) w := by
  unfold execOp
  simp only [ho, hx]
  simp [go_sem]
set_option maxHeartbeats 4000000 in
theorem take64_no {w : World} {b g : Nat} {r sz : Int} {T : Nat} {f : Nat → Int} (hW : WB64 w b g r T (wK sz) f) (hz : max r 1 = sz) (h2 : sz ≤ 8192) (c : Nat) (hc : c < 18446744073709551616) (hT : T < 18446744073709551616) (hu : ∀ j, j < wK sz → U64 (f j))
    (hF : (!decide (c = 18446744073709551615) && (decide (T ≤ c) || (decide (lowN sz T ≤ c) && !bt (f (c / 64 % wK sz)) (c % 64)))) = false) :
    Calls Tryz.prog 65 #[.pointer (some ⟨b, 0, none⟩), .int .u64 (c : Int)] w fun e w' => e = .returned (.bool false) ∧ Below w.heap.size w w' := by
  have hrun := fresh64_gen hW hz h2 c hc hT hu
  rw [hF] at hrun
  go_enter Tryz.func65, Tryz.ntmps65
  go_wp2_with fail
  refine hrun.mono ?_
  rintro e v0 ⟨rfl, m, rfl⟩
  go_wp2_with fail
  go_ret
  exact ⟨rfl, below_dn w m⟩
set_option maxHeartbeats 8000000 in
theorem take64_mid {w : World} {b g : Nat} {r sz : Int} {T n : Nat} {s f : Nat → Int} (hW : WB64 w b g r T (wK sz) f) (hz : max r 1 = sz) (h2 : sz ≤ 8192) (c : Nat) (hc : c + 1 < 18446744073709551616) (hT : T < 18446744073709551616) (hX : Words sz T n s f)
    (hF : (!decide (c = 18446744073709551615) && (decide (T ≤ c) || (decide (lowN sz T ≤ c) && !bt (f (c / 64 % wK sz)) (c % 64)))) = true) (hlt : c < T) (hl : (T : Int) ≤ c + sz) :
    Calls Tryz.prog 65 #[.pointer (some ⟨b, 0, none⟩), .int .u64 (c : Int)] w fun e w' => e = .returned (.bool true) ∧ ∃ f', WB64 w' b g r T (wK sz) f' ∧ Words sz T (n + 1) (cat n s (fun _ => (c : Int))) f' ∧ Touch (fun k => k = b ∨ k = g) w w' := by
  have hrun := fresh64_gen hW hz h2 c (by omega) hT hX.u
  rw [hF] at hrun
  have HX := Hid.mk (Words.put hX.u (hX.bits (by omega)) (word_in hlt hl).1 (word_in hlt hl).2 (T := T) (by omega) rfl)
  have hK := wK_pos sz
  have hK2 : wK sz ≤ 1000 := by have := wK_le h2; omega
  have hp := Nat.mod_lt (c / 64) hK
  have hq := or_bit (hX.u _ hp) (c % 64) (by omega)
  have HQ : Hid (∀ ww, Calls Tryz.prog 88 #[.int .u64 (c : Int)] ww fun e w' => e = .returned (.int .u64 ((2 ^ (c % 64) : Nat) : Int)) ∧ w' = ww) := Hid.mk (fun ww => bit64_run ww c (by omega))
  clear hX hF
  generalize hp0 : c / 64 % wK sz = p at *
  generalize hx0 : f p = x at *
  generalize ((2 ^ (c % 64) : Nat) : Int) = q at *
  generalize hy0 : ((x.toNat ||| 2 ^ (c % 64) : Nat) : Int) = y at *
  have HO := Hid.mk hq
  clear hq
  generalize wK sz = K at *
  have hd : decide ((T : Int) ≤ (c : Int)) = false := decide_eq_false (by omega)
  go_enter Tryz.func65, Tryz.ntmps65
  go_wp2_with fail
  refine hrun.mono ?_
  rintro e u0 ⟨rfl, m, hu0⟩
  have hb0 := below_dn w m
  rw [← hu0] at hb0
  clear hrun hu0
  have hW0 := hW.kept hb0
  have c1 := hW0.c1
  have c2 := hW0.c2
  go_wp2_with (refine wl_value rfl (exec_nil29 rfl (by rfl)) ?_)
  clear c1 c2
  have hcW := hW0.row.cell p hp
  have HC : Hid (∀ ww, Below u0.heap.size u0 ww → ww.cell? ⟨b, 2, none⟩ = some (.slice (some ⟨g, 0, none⟩) K K) ∧ ww.cell? ⟨g, p, none⟩ = some (.int .u64 x)) := Hid.mk (fun ww hb => ⟨(hW0.kept hb).c2, by rw [← hx0]; exact (hW0.kept hb).row.cell p hp⟩)
  have HP : Hid (∀ ww, Below u0.heap.size u0 ww → Calls Tryz.prog 87 #[.pointer (some ⟨b, 0, none⟩), .int .u64 (c : Int)] ww fun e w' => e = .returned (.int .i64 (p : Int)) ∧ w' = ww) := Hid.mk (fun ww hb => by rw [← hp0]; exact place64_run c (by omega) (hW0.kept hb).c2 hK hK2)
  have HW := Hid.mk hW0
  clear hcW hW0
  refine wp_region_steps2 13 _ (Below u0.heap.size u0) (fun v v' => Below v.heap.size v v') (fun i v _ => match i with | 0 => v = .pointer (some ⟨b, 0, none⟩) | 1 => v = .pointer (some ⟨b, 0, none⟩) | 2 => v = .pointer (some ⟨b, 2, none⟩) | 3 => v = .slice (some ⟨g, 0, none⟩) K K | 4 => v = .pointer (some ⟨b, 0, none⟩) | 5 => v = .int .u64 (c : Int) | 6 => v = .int .i64 (p : Int) | 7 => v = .pointer (some ⟨g, p, none⟩) | 8 => v = .int .u64 x | 9 => v = .int .u64 (c : Int) | 10 => v = .int .u64 q | 11 => v = .int .u64 y | 12 => v = .pointer (some ⟨g, p, none⟩) | _ => True) [29, 30, 31, 32, 33, 34, 35, 36, 37, 38, 39, 40, 41]
    [(0, .pointer (some ⟨b, 0, none⟩)), (1, .int .u64 (c : Int))] [[], [0], [1], [2], [], [], [4, 5], [3, 6], [7], [], [9], [8, 10], [3, 6]] rfl (by kernel_rfl) rfl ⟨rfl, rfl, trivial⟩ (Below.drew (Below.refl _ _)) (fun v v' h hb => h.trans (hb.mono h.size)) ?_
    ⟨
    (fun Q a1 ww hS fr kn => ⟨trivial, fun K hK => wp_value (exec_move rfl fr.1) (hK _ _ rfl (Below.refl _ _))⟩),
    (fun Q a1 ww hS fr kn => ⟨trivial, fun K hK => wp_value (exec_nilc rfl kn.1) (hK _ _ rfl (Below.refl _ _))⟩),
    (fun Q a1 ww hS fr kn => ⟨trivial, fun K hK => wp_value (exec_fw64 rfl kn.1) (hK _ _ rfl (Below.refl _ _))⟩),
    (fun Q a1 ww hS fr kn => ⟨trivial, fun K hK => wp_value (exec_ld rfl kn.1 (load_sl ((HC.out ww hS).1))) (hK _ _ rfl (Below.refl _ _))⟩),
    (fun Q a1 ww hS fr kn => ⟨trivial, fun K hK => wp_value (exec_move rfl fr.1) (hK _ _ rfl (Below.refl _ _))⟩),
    (fun Q a1 ww hS fr kn => ⟨trivial, fun K hK => wp_value (exec_move rfl fr.2.1) (hK _ _ rfl (Below.refl _ _))⟩),
    (fun Q a1 ww hS fr kn => ⟨trivial, fun K hK => stepc enterPlc64 rfl (args2 kn.1 kn.2.1) ((HP.out ww hS).mono (fun _ _ h => ⟨h.1, h.2 ▸ Below.refl _ _⟩)) (fun w' hb => hK _ _ rfl hb)⟩),
    (fun Q a1 ww hS fr kn => ⟨trivial, fun K hK => wp_value (exec_idxW rfl kn.1 kn.2.1 hp) (hK _ _ rfl (Below.refl _ _))⟩),
    (fun Q a1 ww hS fr kn => ⟨trivial, fun K hK => wp_value (exec_ld rfl kn.1 (load_u64 ((HC.out ww hS).2))) (hK _ _ rfl (Below.refl _ _))⟩),
    (fun Q a1 ww hS fr kn => ⟨trivial, fun K hK => wp_value (exec_move rfl fr.2.1) (hK _ _ rfl (Below.refl _ _))⟩),
    (fun Q a1 ww hS fr kn => ⟨trivial, fun K hK => stepc enterBit64 rfl (args1 kn.1) ((HQ.out ww).mono (fun _ _ h => ⟨h.1, h.2 ▸ Below.refl _ _⟩)) (fun w' hb => hK _ _ rfl hb)⟩),
    (fun Q a1 ww hS fr kn => ⟨trivial, fun K hK => wp_value (exec_orW rfl kn.1 kn.2.1 HO.out) (hK _ _ rfl (Below.refl _ _))⟩),
    (fun Q a1 ww hS fr kn => ⟨trivial, fun K hK => wp_value (exec_idxW rfl kn.1 kn.2.1 hp) (hK _ _ rfl (Below.refl _ _))⟩),
    trivial⟩ ?_
  · intro i v u u' h hb
    exact h
  intro vs v9 hS9 hk9
  have e40 : vs 40 = .int .u64 y := hk9 11 (by decide)
  have e41 : vs 41 = .pointer (some ⟨g, p, none⟩) := hk9 12 (by decide)
  clear hk9
  simp only [putAll, Act.put, List.setIfInBounds_toArray, List.set_cons_zero, List.set_cons_succ, e40, e41]
  have hW9 := HW.out.kept hS9
  refine ⟨act_w64 rfl (by rfl) (by rfl) hW9.row hp ?_⟩
  intro v10 g10 o10
  simp only [Act.put]
  have HF := Hid.mk (And.intro (WB64.mk ((o10.block b hW9.ne).trans hW9.blk) g10 hW9.ne) (touch_bg (belT (T := fun k => k = b ∨ k = g) hS9) (Touch.mono (touch_only o10) (T' := fun k => k = b ∨ k = g) (fun k _ e => .inr e))))
  clear hW9 hS9 g10 o10
  go_wp2_with fail
  go_ret
  obtain ⟨f1, f2⟩ := HF.out
  exact ⟨rfl, _, f1, HX.out, touch_bg (belT (T := fun k => k = b ∨ k = g) hb0) f2⟩
set_option maxHeartbeats 8000000 in
theorem take64_new {w : World} {b g : Nat} {r sz : Int} {T n : Nat} {s f : Nat → Int} (hW : WB64 w b g r T (wK sz) f) (hz : max r 1 = sz) (h2 : sz ≤ 8192) (c : Nat) (hc : c + 1 < 18446744073709551616) (hT : T < 18446744073709551616) (hX : Words sz T n s f) (hs : ∀ i, i < n → 0 ≤ s i ∧ s i < T)
    (hF : (!decide (c = 18446744073709551615) && (decide (T ≤ c) || (decide (lowN sz T ≤ c) && !bt (f (c / 64 % wK sz)) (c % 64)))) = true) (hge : T ≤ c) :
    Calls Tryz.prog 65 #[.pointer (some ⟨b, 0, none⟩), .int .u64 (c : Int)] w fun e w' => e = .returned (.bool true) ∧ ∃ f', WB64 w' b g r (c + 1) (wK sz) f' ∧ Words sz (c + 1) (n + 1) (cat n s (fun _ => (c : Int))) f' ∧ Touch (fun k => k = b ∨ k = g) w w' := by
  have hrun := fresh64_gen hW hz h2 c (by omega) hT hX.u
  rw [hF] at hrun
  have hmov := fun u (hu : WB64 u b g r T (wK sz) f) => mov64_run hu h2 hX hs c hc hge
  have HQ : Hid (∀ ww, Calls Tryz.prog 88 #[.int .u64 (c : Int)] ww fun e w' => e = .returned (.int .u64 ((2 ^ (c % 64) : Nat) : Int)) ∧ w' = ww) := Hid.mk (fun ww => bit64_run ww c (by omega))
  clear hX hF hs
  have hd : ((T : Int) ≤ (c : Int)) := by omega
  go_enter Tryz.func65, Tryz.ntmps65
  go_wp2_with fail
  refine hrun.mono ?_
  rintro e u1 ⟨rfl, m, hu0⟩
  have hb0 := below_dn w m
  rw [← hu0] at hb0
  clear hrun hu0
  have hW1 := hW.kept hb0
  have c1 := hW1.c1
  have c2 := hW1.c2
  go_wp2_with (refine wl_value rfl (exec_nil29 rfl (by rfl)) ?_)
  refine (hmov u1 hW1).mono ?_
  rintro e u0 ⟨rfl, f0, hW0, hU, hB, hT1⟩
  clear c1 c2 hmov hW1
  have hK := wK_pos sz
  have HX := Hid.mk (Words.put hU hB (c := c) (Nat.le_refl _) (by omega) (T := c + 1) (by omega) rfl)
  have hK2 : wK sz ≤ 1000 := by have := wK_le h2; omega
  have hp := Nat.mod_lt (c / 64) hK
  have hq := or_bit (hU _ hp) (c % 64) (by omega)
  clear hU hB hW
  generalize hp0 : c / 64 % wK sz = p at *
  generalize hx0 : f0 p = x at *
  generalize ((2 ^ (c % 64) : Nat) : Int) = q at *
  generalize hy0 : ((x.toNat ||| 2 ^ (c % 64) : Nat) : Int) = y at *
  have HO := Hid.mk hq
  clear hq
  generalize hKK : wK sz = K at *
  go_wp2_with fail
  have hcW := hW0.row.cell p hp
  have HC : Hid (∀ ww, Below u0.heap.size u0 ww → ww.cell? ⟨b, 2, none⟩ = some (.slice (some ⟨g, 0, none⟩) K K) ∧ ww.cell? ⟨g, p, none⟩ = some (.int .u64 x)) := Hid.mk (fun ww hb => ⟨(hW0.kept hb).c2, by rw [← hx0]; exact (hW0.kept hb).row.cell p hp⟩)
  have HP : Hid (∀ ww, Below u0.heap.size u0 ww → Calls Tryz.prog 87 #[.pointer (some ⟨b, 0, none⟩), .int .u64 (c : Int)] ww fun e w' => e = .returned (.int .i64 (p : Int)) ∧ w' = ww) := Hid.mk (fun ww hb => by rw [← hp0]; exact place64_run c (by omega) (hW0.kept hb).c2 hK hK2)
  have HW := Hid.mk hW0
  clear hcW hW0
  refine wp_region_steps2 13 _ (Below u0.heap.size u0) (fun v v' => Below v.heap.size v v') (fun i v _ => match i with | 0 => v = .pointer (some ⟨b, 0, none⟩) | 1 => v = .pointer (some ⟨b, 0, none⟩) | 2 => v = .pointer (some ⟨b, 2, none⟩) | 3 => v = .slice (some ⟨g, 0, none⟩) K K | 4 => v = .pointer (some ⟨b, 0, none⟩) | 5 => v = .int .u64 (c : Int) | 6 => v = .int .i64 (p : Int) | 7 => v = .pointer (some ⟨g, p, none⟩) | 8 => v = .int .u64 x | 9 => v = .int .u64 (c : Int) | 10 => v = .int .u64 q | 11 => v = .int .u64 y | 12 => v = .pointer (some ⟨g, p, none⟩) | _ => True) [29, 30, 31, 32, 33, 34, 35, 36, 37, 38, 39, 40, 41]
    [(0, .pointer (some ⟨b, 0, none⟩)), (1, .int .u64 (c : Int))] [[], [0], [1], [2], [], [], [4, 5], [3, 6], [7], [], [9], [8, 10], [3, 6]] rfl (by kernel_rfl) rfl ⟨rfl, rfl, trivial⟩ (Below.drew (Below.refl _ _)) (fun v v' h hb => h.trans (hb.mono h.size)) ?_
    ⟨
    (fun Q a1 ww hS fr kn => ⟨trivial, fun K hK => wp_value (exec_move rfl fr.1) (hK _ _ rfl (Below.refl _ _))⟩),
    (fun Q a1 ww hS fr kn => ⟨trivial, fun K hK => wp_value (exec_nilc rfl kn.1) (hK _ _ rfl (Below.refl _ _))⟩),
    (fun Q a1 ww hS fr kn => ⟨trivial, fun K hK => wp_value (exec_fw64 rfl kn.1) (hK _ _ rfl (Below.refl _ _))⟩),
    (fun Q a1 ww hS fr kn => ⟨trivial, fun K hK => wp_value (exec_ld rfl kn.1 (load_sl ((HC.out ww hS).1))) (hK _ _ rfl (Below.refl _ _))⟩),
    (fun Q a1 ww hS fr kn => ⟨trivial, fun K hK => wp_value (exec_move rfl fr.1) (hK _ _ rfl (Below.refl _ _))⟩),
    (fun Q a1 ww hS fr kn => ⟨trivial, fun K hK => wp_value (exec_move rfl fr.2.1) (hK _ _ rfl (Below.refl _ _))⟩),
    (fun Q a1 ww hS fr kn => ⟨trivial, fun K hK => stepc enterPlc64 rfl (args2 kn.1 kn.2.1) ((HP.out ww hS).mono (fun _ _ h => ⟨h.1, h.2 ▸ Below.refl _ _⟩)) (fun w' hb => hK _ _ rfl hb)⟩),
    (fun Q a1 ww hS fr kn => ⟨trivial, fun K hK => wp_value (exec_idxW rfl kn.1 kn.2.1 hp) (hK _ _ rfl (Below.refl _ _))⟩),
    (fun Q a1 ww hS fr kn => ⟨trivial, fun K hK => wp_value (exec_ld rfl kn.1 (load_u64 ((HC.out ww hS).2))) (hK _ _ rfl (Below.refl _ _))⟩),
    (fun Q a1 ww hS fr kn => ⟨trivial, fun K hK => wp_value (exec_move rfl fr.2.1) (hK _ _ rfl (Below.refl _ _))⟩),
    (fun Q a1 ww hS fr kn => ⟨trivial, fun K hK => stepc enterBit64 rfl (args1 kn.1) ((HQ.out ww).mono (fun _ _ h => ⟨h.1, h.2 ▸ Below.refl _ _⟩)) (fun w' hb => hK _ _ rfl hb)⟩),
    (fun Q a1 ww hS fr kn => ⟨trivial, fun K hK => wp_value (exec_orW rfl kn.1 kn.2.1 HO.out) (hK _ _ rfl (Below.refl _ _))⟩),
    (fun Q a1 ww hS fr kn => ⟨trivial, fun K hK => wp_value (exec_idxW rfl kn.1 kn.2.1 hp) (hK _ _ rfl (Below.refl _ _))⟩),
    trivial⟩ ?_
  · intro i v u u' h hb
    exact h
  intro vs v9 hS9 hk9
  have e40 : vs 40 = .int .u64 y := hk9 11 (by decide)
  have e41 : vs 41 = .pointer (some ⟨g, p, none⟩) := hk9 12 (by decide)
  clear hk9
  simp only [putAll, Act.put, List.setIfInBounds_toArray, List.set_cons_zero, List.set_cons_succ, e40, e41]
  have hW9 := HW.out.kept hS9
  refine ⟨act_w64 rfl (by rfl) (by rfl) hW9.row hp ?_⟩
  intro v10 g10 o10
  simp only [Act.put]
  have HF := Hid.mk (And.intro (WB64.mk ((o10.block b hW9.ne).trans hW9.blk) g10 hW9.ne) (touch_bg (belT (T := fun k => k = b ∨ k = g) hS9) (Touch.mono (touch_only o10) (T' := fun k => k = b ∨ k = g) (fun k _ e => .inr e))))
  clear hW9 hS9 g10 o10
  go_wp2_with fail
  go_ret
  obtain ⟨f1, f2⟩ := HF.out
  exact ⟨rfl, _, by rw [hKK]; exact f1, HX.out, touch_bg (touch_bg (belT (T := fun k => k = b ∨ k = g) hb0) hT1) f2⟩
end Go.Proofs.YtbkbcfimpaolmaaGreat
/-
  Own text. The program's windows of numbers of 64 bits: New, Came.
-/
namespace Go.Proofs.YtbkbcfimpaolmaaGreat
open Go.RowKit Go.Proofs
set_option maxRecDepth 100000
theorem run_bld64 (r : Int) (q : Option Addr) (n c : Nat) (w : World) : (Instr.build 103 #[(0, .int .i64 r), (2, .slice q n c)]).run Tryz.prog w = .ok (.agg #[.int .i64 r, .int .u64 0, .slice q n c]) w := by kernel_rfl
theorem exec_bld64 {a : Act} {o : Oper} {w : World} {x y : Operand} (ho : o.op = .build 103 #[(0, x), (2, y)]) {r : Int} {q : Option Addr} {n c : Nat} (hx : a.eval x = .int .i64 r) (hy : a.eval y = .slice q n c) : (execOp a.eval o).run Tryz.prog w = .ok (.value (.agg #[.int .i64 r, .int .u64 0, .slice q n c])) w := by
  have h := run_bld64 r q n c w
  unfold execOp
  simp only [ho, List.map_toArray, List.map_cons, List.map_nil, hx, hy, Sem.run_bind, h, Result.andThen_ok, Sem.run_pure]
theorem wl_boxW64 {ops : Array Oper} {rest : List Oper} {d : Option Tmp} {x : Operand} {t : TypeId} {ps : String} {af : Array Edge} {a : Act} {w : World} {Q : Exit → Act → World → Prop} {cs : Array Value} (hx : a.eval x = .agg cs)
    (h : ∀ w', w'.heap[w.heap.size]? = some (.cells cs 103 (0, 0)) → Below w.heap.size w w' → wpList Tryz.prog ops Q rest (a.put d (.pointer (some ⟨w.heap.size, 0, none⟩))) w') :
    wpList Tryz.prog ops Q ({ dst := d, op := .box 103 x, type := t, pos := ps, after := af, guard := none } :: rest) a w := by
  refine wl_act rfl ?_
  unfold Oper.wp execOp
  simp only [hx]
  simp [go_sem]
  exact h _ (heap_alloc_new w _) ((Below.refl _ _).alloc (Nat.le_refl _) _)
set_option maxHeartbeats 4000000 in
theorem new64_run (x : Int) (w : World) : Calls Tryz.prog 54 #[.int .i64 x] w fun e w' => ∃ b g, e = .returned (.pointer (some ⟨b, 0, none⟩)) ∧ WB64 w' b g (clampF x) 0 (wK (clampF x)) (fun _ => 0) ∧ w.heap.size ≤ b ∧ w.heap.size ≤ g ∧ Below w.heap.size w w' := by
  have hz := clampF_range x
  have hw := wordsFor_run (clampF x) hz w
  have hcl : clampF x = if x < 1 then 1 else if 8192 < x then 8192 else x := rfl
  generalize clampF x = z at *
  generalize wK z = K at *
  have hm : min (max x 1) 8192 = z := by rw [hcl]; split <;> (try split) <;> omega
  have HM := Hid.mk hm
  clear hcl hm
  go_enter Tryz.func54, Tryz.ntmps54
  go_wp2_with (first | (refine wl_value rfl (exec_max rfl (by rfl) (by rfl)) ?_) | (refine wl_value rfl (exec_min rfl (by rfl) (by rfl)) ?_))
  rw [HM.out]
  refine hw.mono ?_
  rintro e v1 ⟨rfl, g1, hb1⟩
  go_wp2_with (first | (refine wl_value rfl (exec_bld64 rfl (by rfl) (by rfl)) ?_) | (refine wl_boxW64 (by rfl) ?_; intro v2 gm hb2))
  go_ret
  have hl := g1.lt
  exact ⟨v1.heap.size, w.heap.size, rfl, ⟨gm, g1.kept hb2, by omega⟩, hb1.size, Nat.le_refl _, hb1.trans (hb2.mono hb1.size)⟩
end Go.Proofs.YtbkbcfimpaolmaaGreat
/-
  Own text. What the program's Fresh answers is what the document says.
-/
namespace Go.Proofs.YtbkbcfimpaolmaaGreat
open Go.RowKit Go.Proofs
set_option maxRecDepth 100000
theorem fresh_code {last c : Nat} {sz : Int} {T n : Nat} {s f : Nat → Int} (hX : Words sz T n s f) (hT : (T : Int) = topF s n) (hs : ∀ i, i < n → 0 ≤ s i) (h1 : 1 ≤ sz) :
    (!decide (c = last) && (decide (T ≤ c) || (decide (lowN sz T ≤ c) && !bt (f (c / 64 % wK sz)) (c % 64)))) = freshD (last : Int) sz n s (c : Int) := by
  have e1 : decide ((c : Int) = (last : Int)) = decide (c = last) := by
    by_cases e : c = last
    · subst e; simp
    · rw [decide_eq_false e, decide_eq_false (by omega)]
  by_cases h2 : T ≤ c
  · rw [fresh_top (by omega), e1, decide_eq_true h2]
    simp
  · by_cases h3 : lowN sz T ≤ c
    · rw [fresh_mid (by unfold lowN at h3; omega), e1, decide_eq_false h2, decide_eq_true h3, hX.has (by omega) (by unfold lowN at h3; omega)]
      simp
    · rw [fresh_late hs (by omega) h1 (by unfold lowN at h3; omega), decide_eq_false h2, decide_eq_false h3]
      simp
end Go.Proofs.YtbkbcfimpaolmaaGreat
/-
  Own text. The program's windows of numbers of 64 bits: Clear, Copy.
-/
namespace Go.Proofs.YtbkbcfimpaolmaaGreat
open Go.RowKit Go.Proofs
set_option maxRecDepth 100000
theorem WB64.top0 {w : World} {b g : Nat} {r : Int} {T K : Nat} {f : Nat → Int} (h : WB64 w b g r T K f) (c : Nat) : WB64 (w.setCell ⟨b, 1, none⟩ (.int .u64 (c : Int))) b g r c K f := by
  refine ⟨?_, h.row.only only_set (Ne.symm h.ne), h.ne⟩
  have h2 := heap_setCell_same w b 1 _ _ (.int .u64 (c : Int)) h.blk
  simpa using h2
theorem copy_w64 {w : World} {g' g K : Nat} {t : TypeId} {s r : Nat → Int} (ty : TypeId) (hg : ArrAt w g' .u64 t K s) (hr : ArrAt w g .u64 t K r) :
    ∃ w', (Builtin.copy_ #[78, 78] ty #[.slice (some ⟨g', 0, none⟩) K K, .slice (some ⟨g, 0, none⟩) K K]).run Tryz.prog w = .ok (goInt K) w' ∧ ArrAt w' g' .u64 t K r ∧ Only g' w w' := by
  have h0 := run_copy_cells (P := Tryz.prog) w 78 78 ty 31 g' 0 K K ⟨g, 0, none⟩ K K (nums .u64 K r) Tryz.underlying78 (by kernel_rfl) (by rw [nums_len]; simp)
    (fun j v hj => by
      obtain ⟨hj2, rfl⟩ := nums_get hj
      rw [Addr.add_lit, Nat.zero_add]
      exact hr.cell j hj2)
    (fun j hj => by rw [nums_len] at hj; rw [Nat.zero_add, hg.cell _ hj]; rfl) (fun j _ => hg.free _) nums_one
  rw [nums_len] at h0
  obtain ⟨C', h1, h2, h3, h4, h5⟩ := setCells_heap (nums .u64 K r) 0 w _ hg (by rw [nums_len, WA_size]; omega)
  rw [nums_len] at h3
  rw [WA_size] at h2
  have e : C' = WA .u64 K r := WA_ext h2 (fun i hi => by
    have := h3 i hi
    rw [Nat.zero_add] at this
    rw [this, nums_at .u64 K r hi])
  exact ⟨_, h0, by unfold ArrAt; rw [h1, e], h5⟩
end Go.Proofs.YtbkbcfimpaolmaaGreat
/-
  Own text. What the program's windows of numbers of 64 bits do.
-/
namespace Go.Proofs.YtbkbcfimpaolmaaGreat
open Go.RowKit Go.Proofs
set_option maxRecDepth 100000
/-- Block b is a window of the program of size sz; s 0 .. s (n - 1) came. -/
def Win64 (w : World) (b : Nat) (sz : Int) (n : Nat) (s : Nat → Int) (S : Nat → Prop) : Prop :=
  ∃ (g : Nat) (r : Int) (f : Nat → Int) (T : Nat), (T : Int) = topF s n ∧ max r 1 = sz ∧ sz ≤ 8192 ∧ WB64 w b g r T (wK sz) f ∧ Words sz T n s f ∧ S = (fun k => k = b ∨ k = g)
theorem nums_top64 {n : Nat} {s : Nat → Int} {T : Nat} (hN : Nums L64 n s) (hT : (T : Int) = topF s n) : T < 18446744073709551616 ∧ ∀ i, i < n → 0 ≤ s i ∧ s i < (T : Int) := by
  have h1 := topF_bound (s := s) (M := L64) (by unfold L64; omega) (n := n) (fun i hi => (hN.1 i hi).2)
  unfold L64 at h1
  exact ⟨by omega, fun i hi => ⟨(hN.1 i hi).1, by have := topF_le (s := s) hi; omega⟩⟩
theorem last64 : ((18446744073709551615 : Nat) : Int) = L64 := rfl
theorem new_win64 (x : Int) (w : World) : Calls Tryz.prog 54 #[.int .i64 x] w fun e w' => ∃ b S, e = .returned (.pointer (some ⟨b, 0, none⟩)) ∧ Win64 w' b (clampF x) 0 (fun _ => 0) S ∧ (∀ k, S k → w.heap.size ≤ k) ∧ Below w.heap.size w w' := by
  refine (new64_run x w).mono ?_
  rintro e w' ⟨b, g, rfl, h, hb, hg, hB⟩
  have hc := clampF_range x
  exact ⟨b, _, rfl, ⟨g, clampF x, _, 0, rfl, by omega, hc.2, h, Words.nil _ _, rfl⟩, fun k hk => by rcases hk with rfl | rfl <;> assumption, hB⟩
theorem fresh_win64 {w : World} {b n : Nat} {sz : Int} {s : Nat → Int} {S : Nat → Prop} (c : Int) (h : Win64 w b sz n s S) (hN : Nums L64 n s) (hc : U64 c) : Calls Tryz.prog 63 #[.pointer (some ⟨b, 0, none⟩), .int .u64 c] w fun e w' => e = .returned (.bool (freshD L64 sz n s c)) ∧ Below w.heap.size w w' := by
  obtain ⟨g, r, f, T, hT, hz, h2, hW, hX, rfl⟩ := h
  obtain ⟨t1, t2⟩ := nums_top64 hN hT
  unfold U64 at hc
  obtain ⟨c, rfl⟩ := Int.eq_ofNat_of_zero_le hc.1
  have := fresh64_gen hW hz h2 c (by omega) t1 hX.u
  rw [fresh_code hX hT (fun i hi => (t2 i hi).1) (by omega), last64] at this
  refine this.mono ?_
  rintro e w' ⟨rfl, m, rfl⟩
  exact ⟨rfl, below_dn w m⟩
theorem takeNo_win64 {w : World} {b n : Nat} {sz : Int} {s : Nat → Int} {S : Nat → Prop} (c : Int) (h : Win64 w b sz n s S) (hN : Nums L64 n s) (hc : U64 c) (hf : freshD L64 sz n s c = false) : Calls Tryz.prog 65 #[.pointer (some ⟨b, 0, none⟩), .int .u64 c] w fun e w' => e = .returned (.bool false) ∧ Below w.heap.size w w' := by
  obtain ⟨g, r, f, T, hT, hz, h2, hW, hX, rfl⟩ := h
  obtain ⟨t1, t2⟩ := nums_top64 hN hT
  unfold U64 at hc
  obtain ⟨c, rfl⟩ := Int.eq_ofNat_of_zero_le hc.1
  exact take64_no hW hz h2 c (by omega) t1 hX.u (by rw [fresh_code hX hT (fun i hi => (t2 i hi).1) (by omega), last64]; exact hf)
theorem takeYes_win64 {w : World} {b n : Nat} {sz : Int} {s : Nat → Int} {S : Nat → Prop} (c : Int) (h : Win64 w b sz n s S) (hN : Nums L64 n s) (hc : U64 c) (hf : freshD L64 sz n s c = true) : Calls Tryz.prog 65 #[.pointer (some ⟨b, 0, none⟩), .int .u64 c] w fun e w' => e = .returned (.bool true) ∧ ∃ S', Win64 w' b sz (n + 1) (cat n s (fun _ => c)) S' ∧ Touch S w w' ∧ ∀ k, S' k → S k ∨ w.heap.size ≤ k := by
  obtain ⟨g, r, f, T, hT, hz, h2, hW, hX, rfl⟩ := h
  obtain ⟨t1, t2⟩ := nums_top64 hN hT
  unfold U64 at hc
  obtain ⟨c, rfl⟩ := Int.eq_ofNat_of_zero_le hc.1
  have hf2 := fresh_code (last := 18446744073709551615) (c := c) hX hT (fun i hi => (t2 i hi).1) (by omega)
  have hcl := (fresh_iff.1 hf).1
  rw [last64, hf] at hf2
  unfold L64 at hcl
  by_cases hge : T ≤ c
  · refine (take64_new hW hz h2 c (by omega) t1 hX t2 hf2 hge).mono ?_
    rintro e w' ⟨rfl, f', h1, h3, h4⟩
    exact ⟨rfl, _, ⟨g, r, f', c + 1, by rw [topF_cat, if_pos (by omega)]; rfl, hz, h2, h1, h3, rfl⟩, h4, fun k hk => .inl hk⟩
  · have hl : (T : Int) ≤ c + sz := by
      by_cases e : (c : Int) + sz < topF s n
      · rw [fresh_late (fun i hi => (t2 i hi).1) (by omega) (by omega) e] at hf
        cases hf
      · omega
    refine (take64_mid hW hz h2 c (by omega) t1 hX hf2 (by omega) hl).mono ?_
    rintro e w' ⟨rfl, f', h1, h3, h4⟩
    exact ⟨rfl, _, ⟨g, r, f', T, by rw [topF_cat, if_neg (by omega)]; exact hT, hz, h2, h1, h3, rfl⟩, h4, fun k hk => .inl hk⟩
theorem top_win64 {w : World} {b n : Nat} {sz : Int} {s : Nat → Int} {S : Nat → Prop} (h : Win64 w b sz n s S) : Calls Tryz.prog 59 #[.pointer (some ⟨b, 0, none⟩)] w fun e w' => e = .returned (.int .u64 (topF s n)) ∧ Below w.heap.size w w' := by
  obtain ⟨g, r, f, T, hT, hz, h2, hW, hX, rfl⟩ := h
  rw [← hT]
  refine (top64_run hW.c1).mono ?_
  rintro e w' ⟨rfl, rfl⟩
  exact ⟨rfl, Below.refl _ _⟩
theorem size_win64 {w : World} {b n : Nat} {sz : Int} {s : Nat → Int} {S : Nat → Prop} (h : Win64 w b sz n s S) : Calls Tryz.prog 85 #[.pointer (some ⟨b, 0, none⟩)] w fun e w' => e = .returned (.int .i64 sz) ∧ Below w.heap.size w w' := by
  obtain ⟨g, r, f, T, hT, hz, h2, hW, hX, rfl⟩ := h
  refine (size64_run hW.c0).mono ?_
  rintro e w' ⟨rfl, rfl⟩
  exact ⟨by rw [hz], Below.refl _ _⟩
theorem lt_win64 {w : World} {b n : Nat} {sz : Int} {s : Nat → Int} {S : Nat → Prop} (h : Win64 w b sz n s S) : ∀ k, S k → k < w.heap.size := by
  obtain ⟨g, r, f, T, hT, hz, h2, hW, hX, rfl⟩ := h
  rintro k (rfl | rfl)
  · exact hW.lt
  · exact hW.row.lt
theorem kept_win64 {w w' : World} {b n : Nat} {sz : Int} {s : Nat → Int} {S : Nat → Prop} (h : Win64 w b sz n s S) (hb : ∀ k, S k → w'.heap[k]? = w.heap[k]?) : Win64 w' b sz n s S := by
  obtain ⟨g, r, f, T, hT, hz, h2, hW, hX, rfl⟩ := h
  exact ⟨g, r, f, T, hT, hz, h2, hW.same (hb b (.inl rfl)) (hb g (.inr rfl)), hX, rfl⟩
end Go.Proofs.YtbkbcfimpaolmaaGreat
/-
  Own text. Sessions as plain data: keypairs in three slots, and what each call makes of them.
-/
namespace Go.Proofs.YtbkbcfimpaolmaaGreat
open Go.RowKit Go.Proofs
set_option maxRecDepth 100000
/-- A keypair in its slot (ep 0: none), with the counters that came. -/
structure Kp where
  ks : Nat → Int
  kr : Nat → Int
  loc : Int
  far : Int
  ep : Int
  fst : Bool
  born : Int
  sent : Int
  n : Nat
  s : Nat → Int
/-- An empty slot. -/
def kp0 : Kp := ⟨fun _ => 0, fun _ => 0, 0, 0, 0, false, 0, 0, 0, fun _ => 0⟩
/-- A session: its time, how many keypairs were put, the three slots. -/
structure Ses where
  t : Int
  c : Int
  K : Nat → Kp
section
variable {α β : Type}
def keepG (ep : α → Int) (K : Nat → α) (i j : Nat) : α := if j = 0 ∧ ep (K i) ≠ 0 then K i else K j
def setG (K : Nat → α) (i : Nat) (k : α) (j : Nat) : α := if j = i then k else K j
def placeG (ep : α → Int) (K : Nat → α) (k z : α) (first : Bool) : Nat → α := if first = true then setG (setG (keepG ep (keepG ep K 1) 2) 1 k) 2 z else setG K 2 k
def movedG (ep : α → Int) (K : Nat → α) (z : α) : Nat → α := setG (setG (keepG ep K 1) 1 (K 2)) 2 z
theorem keepG_map (f : α → β) (ep : β → Int) (K : Nat → α) (i j : Nat) : f (keepG (fun a => ep (f a)) K i j) = keepG ep (fun i => f (K i)) i j := by unfold keepG; split <;> rfl
theorem setG_map (f : α → β) (K : Nat → α) (i : Nat) (k : α) (j : Nat) : f (setG K i k j) = setG (fun i => f (K i)) i (f k) j := by unfold setG; split <;> rfl
theorem placeG_map (f : α → β) (ep : β → Int) (K : Nat → α) (k z : α) (b : Bool) (j : Nat) : f (placeG (fun a => ep (f a)) K k z b j) = placeG ep (fun i => f (K i)) (f k) (f z) b j := by
  unfold placeG
  split
  · rw [setG_map f, funext (setG_map f _ 1 k), funext (keepG_map f ep _ 2), funext (keepG_map f ep _ 1)]
  · rw [setG_map f]
theorem movedG_map (f : α → β) (ep : β → Int) (K : Nat → α) (z : α) (j : Nat) : f (movedG (fun a => ep (f a)) K z j) = movedG ep (fun i => f (K i)) (f z) j := by
  unfold movedG
  rw [setG_map f, funext (setG_map f _ 1 (K 2)), funext (keepG_map f ep _ 1)]
end
def hasL (K : Nat → Kp) (x : Int) (i : Nat) : Bool := !decide ((K i).ep = 0) && decide ((K i).loc = x)
/-- Which slot has an index for its own (-1: none). -/
def atF (K : Nat → Kp) (x : Int) : Int := if hasL K x 0 = true then 0 else if hasL K x 1 = true then 1 else if hasL K x 2 = true then 2 else -1
def tellS (σ : Ses) (now : Int) : Ses := ⟨max σ.t now, σ.c, σ.K⟩
def kpNew (ks kr : Nat → Int) (loc far ep born : Int) (first : Bool) : Kp := ⟨ks, kr, loc, far, ep, first, born, 0, 0, fun _ => 0⟩
def oldF (t : Int) (k : Kp) : Bool := decide (180000 ≤ t - k.born)
def putS (σ : Ses) (now : Int) (ks kr : Nat → Int) (loc far : Int) (first : Bool) : Ses :=
  if atF σ.K loc = -1 then ⟨max σ.t now, σ.c + 1, placeG Kp.ep σ.K (kpNew ks kr loc far (σ.c + 1) (max σ.t now) first) kp0 first⟩ else tellS σ now
def putR (σ : Ses) (loc : Int) : Int × Int := if atF σ.K loc = -1 then (σ.c + 1, 0) else (0, 24)
def kpSent (k : Kp) : Kp := { k with sent := k.sent + 1 }
def sealOk (σ : Ses) (now : Int) : Bool := !decide ((σ.K 1).ep = 0) && !oldF (max σ.t now) (σ.K 1)
def sealS (σ : Ses) (now : Int) : Ses := if sealOk σ now = true then ⟨max σ.t now, σ.c, setG σ.K 1 (kpSent (σ.K 1))⟩ else tellS σ now
def kpTook (k : Kp) (c : Int) : Kp := { k with n := k.n + 1, s := cat k.n k.s (fun _ => c) }
/-- What an opened box does to the slots. -/
def openedF (K : Nat → Kp) (i : Nat) : Nat → Kp :=
  let K2 := if i = 2 then movedG Kp.ep K kp0 else K
  if i ≠ 0 ∧ 8192 ≤ topF (K2 1).s (K2 1).n then setG K2 0 kp0 else K2
/-- Which error a box meets ahead of its opening (0: none), in the slot i. -/
def openE (σ : Ses) (now : Int) (i : Nat) (c : Int) : Int :=
  if oldF (max σ.t now) (σ.K i) = true then 19 else if 18446744073709543423 ≤ c ∨ freshD L64 8192 (σ.K i).n (σ.K i).s c = false then 14 else 0
def nonN (c : Int) : Nat → Int := tailN (digN c)
def openAt (σ : Ses) (now : Int) (i : Nat) (c : Int) (box : ByteArray) : (ByteArray × Int × Int) × Ses :=
  if openE σ now i c ≠ 0 then ((ByteArray.empty, 0, openE σ now i c), tellS σ now)
  else if (openT (σ.K i).kr (nonN c) box ByteArray.empty).2 ≠ 0 then ((ByteArray.empty, 0, (openT (σ.K i).kr (nonN c) box ByteArray.empty).2), tellS σ now)
  else (((openT (σ.K i).kr (nonN c) box ByteArray.empty).1, (σ.K i).ep, 0), ⟨max σ.t now, σ.c, openedF (setG σ.K i (kpTook (σ.K i) c)) i⟩)
def openS (σ : Ses) (now x c : Int) (box : ByteArray) : (ByteArray × Int × Int) × Ses :=
  if atF σ.K x = -1 then ((ByteArray.empty, 0, 15), tellS σ now) else openAt σ now (atF σ.K x).toNat c box
def wantsF (σ : Ses) (now : Int) (sent : Bool) : Bool :=
  if (σ.K 1).ep = 0 then sent else if (σ.K 1).fst = false then false else if sent = true then decide (120000 ≤ max σ.t now - (σ.K 1).born) else decide (165000 ≤ max σ.t now - (σ.K 1).born)
def goesF (p : Kp → Bool) (k : Kp) : Bool := !decide (k.ep = 0) && p k
def dropL (p : Kp → Bool) (K : Nat → Kp) : Nat → List Int
  | 0 => []
  | n + 1 => dropL p K n ++ (if goesF p (K n) = true then [(K n).loc] else [])
def dropK (p : Kp → Bool) (K : Nat → Kp) (m i : Nat) : Kp := if i < m ∧ goesF p (K i) = true then kp0 else K i
def expireS (σ : Ses) (now : Int) : Ses := ⟨max σ.t now, σ.c, dropK (oldF (max σ.t now)) σ.K 3⟩
def closeS (σ : Ses) : Ses := ⟨σ.t, σ.c, dropK (fun _ => true) σ.K 3⟩
def dueF (K : Nat → Kp) : Nat → Int
  | 0 => -1
  | n + 1 => if (K n).ep ≠ 0 ∧ (dueF K n = -1 ∨ (K n).born + 180000 < dueF K n) then (K n).born + 180000 else dueF K n
/-- What Slots tells: the slots' numbers. -/
def slotsL (K : Nat → Kp) : Nat → List Nat
  | 0 => []
  | n + 1 => slotsL K n ++ (if (K n).ep = 0 then [] else [n])
/-- What all calls keep: numbers in their bounds, no two slots of one index. -/
structure KpOk (M : Nat) (σ : Ses) (k : Kp) : Prop where
  ep0 : 1 ≤ k.ep
  ep1 : k.ep ≤ σ.c
  b0 : 0 ≤ k.born
  b1 : k.born ≤ σ.t
  s0 : 0 ≤ k.sent
  s1 : k.sent ≤ M
  ks : Byts 32 k.ks
  kr : Byts 32 k.kr
  l0 : 0 ≤ k.loc
  l1 : k.loc < 4294967296
  f0 : 0 ≤ k.far
  f1 : k.far < 4294967296
  n1 : k.n ≤ M
  nums : Nums L64 k.n k.s
structure SesOk (M : Nat) (σ : Ses) : Prop where
  t0 : 0 ≤ σ.t
  t1 : σ.t ≤ 9223372036854775807
  c0 : 0 ≤ σ.c
  c1 : σ.c ≤ M
  emp : ∀ i, i < 3 → (σ.K i).ep = 0 → σ.K i = kp0
  ok : ∀ i, i < 3 → (σ.K i).ep ≠ 0 → KpOk M σ (σ.K i)
  one : ∀ i j, i < 3 → j < 3 → (σ.K i).ep ≠ 0 → (σ.K j).ep ≠ 0 → (σ.K i).loc = (σ.K j).loc → i = j
/-- A slot's cells. -/
def slC (k : Kp) (p : Value) (j : Nat) : Value :=
  if j < 32 then .int .u8 (k.ks j) else if j < 64 then .int .u8 (k.kr (j - 32)) else if j < 65 then .int .u32 k.loc else if j < 66 then .int .u32 k.far
  else if j < 67 then .int .i64 k.ep else if j < 68 then .bool k.fst else if j < 69 then .int .i64 k.born else if j < 70 then .int .u64 k.sent else p
end Go.Proofs.YtbkbcfimpaolmaaGreat
/-
  Own text. Structs of cells in memory; a session of the program in memory.
-/
namespace Go.Proofs.YtbkbcfimpaolmaaGreat
open Go.RowKit Go.Proofs
set_option maxRecDepth 100000
/-- The cells of a struct, each by its number. -/
def SC (n : Nat) (V : Nat → Value) : Array Value := ((List.range n).map V).toArray
theorem SC_size (n : Nat) (V : Nat → Value) : (SC n V).size = n := by simp [SC]
theorem SC_get (n : Nat) (V : Nat → Value) (i : Nat) (h : i < n) : (SC n V)[i]? = some (V i) := by simp [SC, h]
theorem SC_one {n : Nat} {V : Nat → Value} (h : ∀ i, (V i).oneCell' = true) : (SC n V).all (·.oneCell') = true := by
  rw [Array.all_eq_true_iff_forall_mem]
  intro v hv
  simp only [SC, List.mem_toArray, List.mem_map] at hv
  obtain ⟨i, _, rfl⟩ := hv
  exact h i
def IsSt (ty n : Nat) : Prop := ∃ d, Tryz.prog.underlying ty = some d ∧ (match d with | .struct _ | .array _ _ => true | _ => false) = true ∧ (Tryz.prog.info? ty).map (·.size) = some n
def SAt (w : World) (b : Nat) (ty : TypeId) (n : Nat) (V : Nat → Value) : Prop := w.heap[b]? = some (.cells (SC n V) ty (0, 0))
section
variable {w w' : World} {b n : Nat} {ty : TypeId} {V : Nat → Value}
theorem SAt.at (h : SAt w b ty n V) (i : Nat) (hi : i < n) : w.cell? ⟨b, i, none⟩ = some (V i) := by
  rw [cell_of_row w b i _ _ _ h, SC_get n V i hi]
theorem SAt.lt (h : SAt w b ty n V) : b < w.heap.size := heap_lt h
theorem SAt.block (h : SAt w b ty n V) (e : w'.heap[b]? = w.heap[b]?) : SAt w' b ty n V := e.trans h
theorem SAt.kept (h : SAt w b ty n V) (hb : Below w.heap.size w w') : SAt w' b ty n V := h.block (hb.block b h.lt)
theorem SAt.only {g : Nat} (h : SAt w b ty n V) (ho : Only g w w') (hB : b ≠ g) : SAt w' b ty n V := h.block (ho.block b hB)
theorem SAt.tou {g : Nat} (h : SAt w b ty n V) (t : Touch (fun x => x = g) w w') (hB : b ≠ g) : SAt w' b ty n V := h.block (t.block b h.lt hB)
theorem SAt.range {o m : Nat} {s : Nat → Int} (h : SAt w b ty n V) (hm : o + m ≤ n) (hv : ∀ j, j < m → V (o + j) = .int .u8 (s j)) : w.rangeAt b o (nums .u8 m s) := fun j v hj => by
  obtain ⟨hj2, rfl⟩ := nums_get hj
  rw [h.at (o + j) (by omega), hv j hj2]
end
theorem st_st {ops : Array Oper} {rest : List Oper} {d : Option Tmp} {x y : Operand} {t ty : TypeId} {ps : String} {af : Array Edge} {a : Act} {w : World} {Q : Exit → Act → World → Prop} {g n : Nat} {V V' : Nat → Value}
    (hA : IsSt ty n) (h1 : ∀ i, (V i).oneCell' = true) (hg : SAt w g ty n V') (hx : a.eval x = .pointer (some ⟨g, 0, none⟩)) (hy : a.eval y = .agg (SC n V))
    (h : ∀ w2, SAt w2 g ty n V → Only g w w2 → wpList Tryz.prog ops Q rest (a.put d undef) w2) : wpList Tryz.prog ops Q ({ dst := d, op := .store ty x y, type := t, pos := ps, after := af, guard := none } :: rest) a w := by
  obtain ⟨_, _, _, h3⟩ := hA
  exact st_row rfl ty x y rfl g _ hx hy ty _ hg (by rw [SC_size]; exact h3) (by rw [SC_size, SC_size]) (SC_one h1) h
theorem look_st {a : Act} {o : Oper} {w : World} {x : Operand} {ty : TypeId} {g n : Nat} {V : Nat → Value} (ho : o.op = .load ty x) (hA : IsSt ty n) (hg : SAt w g ty n V) (hx : a.eval x = .pointer (some ⟨g, 0, none⟩)) : (execOp a.eval o).run Tryz.prog w = .ok (.value (.agg (SC n V))) w := by
  obtain ⟨d, h1, h2, h3⟩ := hA
  unfold execOp
  simp only [ho, hx]
  have := run_loadVar_row (P := Tryz.prog) w g ty ty (SC n V) (0, 0) _ hg h1 (by cases d <;> first | rfl | exact h2) (by rw [SC_size]; exact h3)
  simp [Instr.loadAt, Instr.sureAddr, this]
theorem act_st7 {o : Oper} {a : Act} {w : World} {K : Act → World → Prop} {Q : Exit → Act → World → Prop} {x y : Operand} {ty : TypeId} {g n : Nat} {V V' : Nat → Value} (ho : o.op = .store ty x y)
    (hA : IsSt ty n) (h1 : ∀ i, (V i).oneCell' = true) (hx : a.eval x = .pointer (some ⟨g, 0, none⟩)) (hy : a.eval y = .agg (SC n V)) (hg : SAt w g ty n V')
    (h : ∀ w2, SAt w2 g ty n V → Only g w w2 → K (a.put o.dst undef) w2) : o.wp Tryz.prog a w K Q := by
  obtain ⟨_, _, _, h3⟩ := hA
  have hrun := run_storeVar_row (P := Tryz.prog) w g ty ty (SC n V') (SC n V) hg (by rw [SC_size]; exact h3) (by rw [SC_size, SC_size]) (SC_one h1)
  unfold Oper.wp execOp
  simp only [ho, hx, hy, Instr.storeAt, Instr.sureAddr, Sem.run_bind, Sem.run_pure, Result.andThen_ok, hrun]
  exact h _ (setRow_heap w g (SC n V') (SC n V) ty (0, 0) hg) (only_setRow w g _)
theorem SAt.congr {w : World} {b n : Nat} {ty : TypeId} {V V' : Nat → Value} (h : SAt w b ty n V) (e : ∀ i, i < n → V i = V' i) : SAt w b ty n V' := by
  have : SC n V = SC n V' := by
    unfold SC
    congr 1
    exact List.map_congr_left (fun i hi => e i (List.mem_range.1 hi))
  unfold SAt
  rw [← this]
  exact h
theorem SC_ext {n : Nat} {V : Nat → Value} {C : Array Value} (hs : C.size = n) (h : ∀ i, i < n → C[i]? = some (V i)) : C = SC n V := by
  apply Array.ext
  · rw [hs, SC_size]
  · intro i h1 h2
    have a1 := h i (by omega)
    have a2 := SC_get n V i (by omega)
    rw [← a2, Array.getElem?_eq_getElem h1, Array.getElem?_eq_getElem h2] at a1
    exact Option.some.inj a1
/-- A part of a struct is written. -/
theorem SAt.mid {w : World} {b n : Nat} {ty : TypeId} {V : Nat → Value} (h : SAt w b ty n V) (U : Nat → Value) (o m : Nat) (hm : o + m ≤ n) :
    SAt (w.setCells b o (SC m U).toList) b ty n (fun x => if o ≤ x ∧ x < o + m then U (x - o) else V x) ∧ Only b w (w.setCells b o (SC m U).toList) := by
  have hl : (SC m U).toList.length = m := by rw [Array.length_toList, SC_size]
  obtain ⟨C', h1, h2, h3, h4, h5⟩ := setCells_heap (SC m U).toList o w (SC n V) h (by rw [hl, SC_size]; exact hm)
  refine ⟨?_, h5⟩
  unfold SAt
  rw [h1]
  congr 2
  refine SC_ext (by rw [h2, SC_size]) (fun i hi => ?_)
  by_cases hc : o ≤ i ∧ i < o + m
  · rw [if_pos hc]
    have := h3 (i - o) (by rw [hl]; omega)
    rw [show o + (i - o) = i by omega] at this
    rw [this, Array.getElem?_toList, SC_get m U _ (by omega)]
  · rw [if_neg hc, h4 i (by rw [hl]; omega), SC_get n V i hi]
theorem SAt.set {w : World} {b n : Nat} {ty : TypeId} {V : Nat → Value} (h : SAt w b ty n V) (i : Nat) (v : Value) (hi : i < n) : SAt (w.setCell ⟨b, i, none⟩ v) b ty n (fun x => if x = i then v else V x) := by
  have := heap_setCell_same w b i _ ty v h
  unfold SAt
  rw [this]
  congr 2
  refine SC_ext (by simp [SC_size]) (fun j hj => ?_)
  rw [Array.getElem?_setIfInBounds]
  by_cases e : j = i
  · subst e; simp [SC_size, hj]
  · rw [if_neg (fun h => e h.symm), if_neg e, SC_get n V j hj]
theorem SAt.there {w : World} {b n : Nat} {ty : TypeId} {V : Nat → Value} (h : SAt w b ty n V) (o m : Nat) (hm : o + m ≤ n) : w.there b o m := fun j hj => by
  refine ⟨?_, ?_⟩
  · rw [h.at (o + j) (by omega)]; rfl
  · exact frozen_of_row w b (o + j) _ _ h
def ptV : Option Nat → Value
  | none => .pointer none
  | some g => .pointer (some ⟨g, 0, none⟩)
/-- A slot's cells: a keypair, and where its window is. -/
def slR (r : Kp × Option Nat) : Nat → Value := slC r.1 (ptV r.2)
def rz : Kp × Option Nat := (kp0, none)
def rep (r : Kp × Option Nat) : Int := r.1.ep
def seV (R : Nat → Kp × Option Nat) (t c : Int) (x : Nat) : Value := if x < 213 then slR (R (x / 71)) (x % 71) else if x < 214 then .int .i64 t else .int .i64 c
/-- Block b is a session of the program. -/
def SeAt (w : World) (b : Nat) (R : Nat → Kp × Option Nat) (t c : Int) : Prop := SAt w b 58 215 (seV R t c)
theorem ptV_one (o : Option Nat) : (ptV o).oneCell' = true := by cases o <;> rfl
theorem slR_one (r : Kp × Option Nat) (i : Nat) : (slR r i).oneCell' = true := by
  unfold slR slC
  (repeat' split) <;> first | rfl | exact ptV_one _
theorem isSlot : IsSt 55 71 := ⟨_, Tryz.underlying55, rfl, by kernel_rfl⟩
theorem isSes : IsSt 58 215 := ⟨_, Tryz.underlying58, rfl, by kernel_rfl⟩
theorem isTold : IsSt 52 8 := ⟨_, Tryz.underlying52, rfl, by kernel_rfl⟩
theorem seV_slot {R : Nat → Kp × Option Nat} {t c : Int} {i j : Nat} (hi : i < 3) (hj : j < 71) : seV R t c (71 * i + j) = slR (R i) j := by
  unfold seV
  rw [if_pos (by omega), show (71 * i + j) / 71 = i by omega, show (71 * i + j) % 71 = j by omega]
section
variable {w w' : World} {b : Nat} {R : Nat → Kp × Option Nat} {t c : Int} {r : Kp × Option Nat}
theorem SeAt.lt (h : SeAt w b R t c) : b < w.heap.size := SAt.lt h
theorem SeAt.kept (h : SeAt w b R t c) (hb : Below w.heap.size w w') : SeAt w' b R t c := SAt.kept h hb
theorem SeAt.below {B : Nat} (h : SeAt w b R t c) (hb : Below B w w') (hB : b < B) : SeAt w' b R t c := SAt.block h (hb.block b hB)
theorem SeAt.only {g : Nat} (h : SeAt w b R t c) (ho : Only g w w') (hB : b ≠ g) : SeAt w' b R t c := SAt.only h ho hB
theorem SeAt.time (h : SeAt w b R t c) : w.cell? ⟨b, 213, none⟩ = some (.int .i64 t) := SAt.at h 213 (by omega)
theorem SeAt.count (h : SeAt w b R t c) : w.cell? ⟨b, 214, none⟩ = some (.int .i64 c) := SAt.at h 214 (by omega)
theorem SeAt.cell (h : SeAt w b R t c) (i j : Nat) (hi : i < 3) (hj : j < 71) : w.cell? ⟨b, 71 * i + j, none⟩ = some (slR (R i) j) := by rw [SAt.at h _ (by omega), seV_slot hi hj]
theorem SeAt.slot (h : SeAt w b R t c) (i : Nat) (hi : i < 3) : w.rangeAt b (71 * i) (SC 71 (slR (R i))).toList := fun j v hj => by
  have hl : j < 71 := by
    have := (List.getElem?_eq_some_iff.1 hj).1
    rwa [Array.length_toList, SC_size] at this
  rw [h.cell i j hi hl, ← SC_get 71 _ j hl, ← Array.getElem?_toList, hj]
theorem SeAt.congr {R' : Nat → Kp × Option Nat} {t' c' : Int} (h : SeAt w b R t c) (e : ∀ i, i < 3 → slR (R i) = slR (R' i)) (et : t = t') (ec : c = c') : SeAt w b R' t' c' := by
  subst et ec
  refine SAt.congr h (fun x hx => ?_)
  unfold seV
  by_cases h1 : x < 213
  · rw [if_pos h1, if_pos h1, e (x / 71) (by omega)]
  · rw [if_neg h1, if_neg h1]
/-- A slot is written. -/
theorem SeAt.put (h : SeAt w b R t c) (i : Nat) (hi : i < 3) (r : Kp × Option Nat) : SeAt (w.setCells b (71 * i) (SC 71 (slR r)).toList) b (setG R i r) t c ∧ Only b w (w.setCells b (71 * i) (SC 71 (slR r)).toList) := by
  obtain ⟨h1, h2⟩ := SAt.mid h (slR r) (71 * i) 71 (by omega)
  refine ⟨SAt.congr h1 (fun x hx => ?_), h2⟩
  show (if 71 * i ≤ x ∧ x < 71 * i + 71 then slR r (x - 71 * i) else seV R t c x) = seV (setG R i r) t c x
  unfold seV setG
  by_cases hc : 71 * i ≤ x ∧ x < 71 * i + 71
  · rw [if_pos hc, if_pos (by omega), if_pos (by omega), show x - 71 * i = x % 71 by omega]
  · rw [if_neg hc]
    by_cases h1 : x < 213
    · rw [if_pos h1, if_pos h1, if_neg (by omega)]
    · rw [if_neg h1, if_neg h1]
theorem SeAt.tell (h : SeAt w b R t c) (t' : Int) : SeAt (w.setCell ⟨b, 213, none⟩ (.int .i64 t')) b R t' c := by
  refine SAt.congr (SAt.set h 213 _ (by omega)) (fun x hx => ?_)
  show (if x = 213 then Value.int .i64 t' else seV R t c x) = seV R t' c x
  unfold seV
  by_cases e : x = 213
  · subst e; rfl
  · rw [if_neg e]
    by_cases h1 : x < 213
    · rw [if_pos h1, if_pos h1]
    · rw [if_neg h1, if_neg h1, if_neg (by omega), if_neg (by omega)]
theorem SeAt.counts (h : SeAt w b R t c) (c' : Int) : SeAt (w.setCell ⟨b, 214, none⟩ (.int .i64 c')) b R t c' := by
  refine SAt.congr (SAt.set h 214 _ (by omega)) (fun x hx => ?_)
  show (if x = 214 then Value.int .i64 c' else seV R t c x) = seV R t c' x
  unfold seV
  by_cases e : x = 214
  · subst e; rfl
  · rw [if_neg e]
    by_cases h1 : x < 213
    · rw [if_pos h1, if_pos h1]
    · rw [if_neg h1, if_neg h1, if_pos (by omega), if_pos (by omega)]
end
section
variable {w : World} {g : Nat} {r : Kp × Option Nat} {ty : TypeId}
theorem sl_ks (h : SAt w g ty 71 (slR r)) : w.rangeAt g 0 (nums .u8 32 r.1.ks) := SAt.range h (by omega) (fun j hj => by unfold slR slC; rw [Nat.zero_add, if_pos hj])
theorem sl_kr (h : SAt w g ty 71 (slR r)) : w.rangeAt g 32 (nums .u8 32 r.1.kr) := SAt.range h (by omega) (fun j hj => by unfold slR slC; rw [if_neg (by omega), if_pos (by omega), Nat.add_sub_cancel_left])
theorem sl_loc (h : SAt w g ty 71 (slR r)) : w.cell? ⟨g, 64, none⟩ = some (.int .u32 r.1.loc) := SAt.at h 64 (by omega)
theorem sl_far (h : SAt w g ty 71 (slR r)) : w.cell? ⟨g, 65, none⟩ = some (.int .u32 r.1.far) := SAt.at h 65 (by omega)
theorem sl_ep (h : SAt w g ty 71 (slR r)) : w.cell? ⟨g, 66, none⟩ = some (.int .i64 r.1.ep) := SAt.at h 66 (by omega)
theorem sl_fst (h : SAt w g ty 71 (slR r)) : w.cell? ⟨g, 67, none⟩ = some (.bool r.1.fst) := SAt.at h 67 (by omega)
theorem sl_born (h : SAt w g ty 71 (slR r)) : w.cell? ⟨g, 68, none⟩ = some (.int .i64 r.1.born) := SAt.at h 68 (by omega)
theorem sl_sent (h : SAt w g ty 71 (slR r)) : w.cell? ⟨g, 69, none⟩ = some (.int .u64 r.1.sent) := SAt.at h 69 (by omega)
theorem sl_win (h : SAt w g ty 71 (slR r)) : w.cell? ⟨g, 70, none⟩ = some (ptV r.2) := SAt.at h 70 (by omega)
end
theorem run_fse (b k : Nat) (w : World) : k < 3 → (Instr.fieldAt 58 (.pointer (some ⟨b, 0, none⟩)) k).run Tryz.prog w = .ok (.pointer (some ⟨b, [0, 213, 214].getD k 0, none⟩)) w := by
  intro hk
  match k, hk with
  | 0, _ => simp [go_sem]
  | 1, _ => simp [go_sem]
  | 2, _ => simp [go_sem]
theorem exec_fse {a : Act} {o : Oper} {w : World} {x : Operand} {k : Nat} (ho : o.op = .fieldAddr 58 x k) {b : Nat} (hx : a.eval x = .pointer (some ⟨b, 0, none⟩)) (hk : k < 3) : (execOp a.eval o).run Tryz.prog w = .ok (.value (.pointer (some ⟨b, [0, 213, 214].getD k 0, none⟩))) w := by
  have h := run_fse b k w hk
  unfold execOp
  simp only [ho, hx, Sem.run_bind, h, Result.andThen_ok, Sem.run_pure]
theorem sizeSlot (w : World) : (sizeOf (Tryz.prog.elem 56)).run Tryz.prog w = .ok 71 w := by kernel_rfl
theorem len3 : Tryz.prog.arrayLen 56 = 3 := by kernel_rfl
theorem und3 : Tryz.prog.underlying 56 = some (.array (Tryz.prog.arrayLen 56) (Tryz.prog.elem 56)) := Tryz.underlying56
/-- The address of a slot. -/
theorem exec_ix3 {a : Act} {o : Oper} {w : World} {x y : Operand} (ho : o.op = .indexAddr 56 x y) {b i : Nat} (hx : a.eval x = .pointer (some ⟨b, 0, none⟩)) (hy : a.eval y = .int .i64 (i : Int)) (hi : i < 3) : (execOp a.eval o).run Tryz.prog w = .ok (.value (.pointer (some ⟨b, 71 * i, none⟩))) w := by
  unfold execOp
  simp only [ho, hx, hy, Sem.run_bind]
  rw [run_indexAt_array w 56 _ .i64 (i : Int) und3, if_pos ⟨by omega, by rw [len3]; omega⟩, sizeSlot]
  simp only [Result.andThen_ok, Addr.add_lit, Int.toNat_natCast, Nat.mul_comm i 71, Nat.zero_add, Sem.run_pure]
theorem exec_ldslot {a : Act} {o : Oper} {w : World} {x : Operand} (ho : o.op = .load 55 x) {b i : Nat} {R : Nat → Kp × Option Nat} {t c : Int} (hx : a.eval x = .pointer (some ⟨b, 71 * i, none⟩)) (hi : i < 3) (hg : SeAt w b R t c) : (execOp a.eval o).run Tryz.prog w = .ok (.value (.agg (SC 71 (slR (R i))))) w := by
  have h := run_loadAt_mid (P := Tryz.prog) w b (71 * i) 55 (SC 71 (slR (R i))).toList _ (hg.slot i hi) Tryz.underlying55 rfl (by rw [Array.length_toList, SC_size]; kernel_rfl)
  exact exec_ld ho hx h
theorem act_slot {o : Oper} {a : Act} {w : World} {K : Act → World → Prop} {Q : Exit → Act → World → Prop} {x y : Operand} (ho : o.op = .store 55 x y) {b i : Nat} {R : Nat → Kp × Option Nat} {r : Kp × Option Nat} {t c : Int}
    (hx : a.eval x = .pointer (some ⟨b, 71 * i, none⟩)) (hy : a.eval y = .agg (SC 71 (slR r))) (hi : i < 3) (hg : SeAt w b R t c) (h : ∀ w2, SeAt w2 b (setG R i r) t c → Only b w w2 → K (a.put o.dst undef) w2) : o.wp Tryz.prog a w K Q := by
  obtain ⟨h1, h2⟩ := hg.put i hi r
  exact wp_store_mid 55 x y ho b (71 * i) (SC 71 (slR r)) hx hy (by rw [SC_size]; exact SAt.there hg (71 * i) 71 (by omega)) (by rw [SC_size]; kernel_rfl) (SC_one (slR_one r)) (h _ h1 h2)
theorem run_slZ (w : World) : (Instr.build 55 #[]).run Tryz.prog w = .ok (.agg (SC 71 (slR rz))) w := by kernel_rfl
theorem exec_slZ {a : Act} {o : Oper} {w : World} (ho : o.op = .build 55 #[]) : (execOp a.eval o).run Tryz.prog w = .ok (.value (.agg (SC 71 (slR rz)))) w := by
  have h := run_slZ w
  unfold execOp
  simp only [ho, List.map_toArray, List.map_nil, Sem.run_bind, h, Result.andThen_ok, Sem.run_pure]
theorem zeroSlotV (w : World) : (zeroValue 55).run Tryz.prog w = .ok (.agg (SC 71 (slR rz))) w := by kernel_rfl
/-- A slot as a parameter lies in a block of its own. -/
theorem wl_box {ops : Array Oper} {rest : List Oper} {d : Option Tmp} {x : Operand} {t : TypeId} {ps : String} {af : Array Edge} {a : Act} {w : World} {Q : Exit → Act → World → Prop} {r : Kp × Option Nat} (hx : a.eval x = .agg (SC 71 (slR r)))
    (h : ∀ g w', w.heap.size ≤ g → SAt w' g 55 71 (slR r) → Below w.heap.size w w' → wpList Tryz.prog ops Q rest (a.put d (.pointer (some ⟨g, 0, none⟩))) w') :
    wpList Tryz.prog ops Q ({ dst := d, op := .box 55 x, type := t, pos := ps, after := af, guard := none } :: rest) a w := by
  refine wl_act rfl ?_
  unfold Oper.wp execOp
  simp only [hx]
  simp [go_sem]
  exact h _ _ (Nat.le_refl _) (heap_alloc_new w _) ((Below.refl _ _).alloc (Nat.le_refl _) _)
/-- k := s.slots[i]. -/
theorem wl_take {ops : Array Oper} {rest : List Oper} {d1 d2 : Option Tmp} {x y1 y2 : Operand} {t1 t2 t3 : TypeId} {p1 p2 p3 : String} {f1 f2 f3 : Array Edge} {a : Act} {w : World} {Q : Exit → Act → World → Prop} {b i : Nat} {R : Nat → Kp × Option Nat} {t c : Int}
    (hg : SeAt w b R t c) (hi : i < 3) (hx : a.eval x = .pointer (some ⟨b, 71 * i, none⟩)) (e1 : ∀ u v, ((a.put d1 u).put d2 v).eval y1 = v) (e2 : ∀ u v, ((a.put d1 u).put d2 v).eval y2 = u)
    (h : ∀ g w', w.heap.size ≤ g → SAt w' g 55 71 (slR (R i)) → SeAt w' b R t c → Below w.heap.size w w' → wpList Tryz.prog ops Q rest (((a.put d1 (.agg (SC 71 (slR (R i))))).put d2 (.pointer (some ⟨g, 0, none⟩))).put none undef) w') :
    wpList Tryz.prog ops Q ({ dst := d1, op := .load 55 x, type := t1, pos := p1, after := f1, guard := none } :: { dst := d2, op := .alloc 55, type := t2, pos := p2, after := f2, guard := none } :: { dst := none, op := .store 55 y1 y2, type := t3, pos := p3, after := f3, guard := none } :: rest) a w := by
  refine wl_value rfl (exec_ldslot rfl hx hi hg) ?_
  refine wl_act rfl (act_alloc zeroSlotV rfl (fun w' hb hz => ?_))
  refine st_st isSlot (slR_one _) hz (e1 _ _) (e2 _ _) (fun w2 h2 ho => ?_)
  have hlt := hg.lt
  exact h _ w2 (Nat.le_refl _) h2 ((hg.kept hb).only ho (by omega)) (hb.trans (ho.below (Nat.le_refl _)))
end Go.Proofs.YtbkbcfimpaolmaaGreat
/-
  Own text. Package session: empty, tell, age, old, find.
-/
namespace Go.Proofs.YtbkbcfimpaolmaaGreat
open Go.RowKit Go.Proofs
set_option maxRecDepth 100000
set_option maxHeartbeats 1000000 in
theorem empty_run (r : Kp × Option Nat) (w : World) : Calls Tryz.prog 32 #[.agg (SC 71 (slR r))] w fun e w' => e = .returned (.bool (decide (r.1.ep = 0))) ∧ Below w.heap.size w w' := by
  go_enter Tryz.func32, Tryz.ntmps32
  go_wp2_with (refine wl_box (by rfl) ?_; intro g w1 hg g1 hB1; refine Hid.out ?_)
  refine Hid.mk ?_
  have c1 := sl_ep g1
  clear g1 hg
  go_wp2_with fail
  go_ret
  exact ⟨rfl, hB1⟩
set_option maxHeartbeats 1000000 in
theorem tell_run {w : World} {b : Nat} {R : Nat → Kp × Option Nat} {t c : Int} (now : Int) (h : SeAt w b R t c) : Calls Tryz.prog 28 #[.pointer (some ⟨b, 0, none⟩), .int .i64 now] w fun e w' => e = .returned (.tuple #[]) ∧ SeAt w' b R (max t now) c ∧ Only b w w' := by
  have c1 := h.time
  have f1 : w.frozen? ⟨b, 213, none⟩ = false := frozen_of_row w b 213 _ _ h
  have HT := Hid.mk (And.intro (h.tell (max t now)) ((Only.refl b w).setCell 213 (.int .i64 (max t now))))
  clear h
  go_enter Tryz.func28, Tryz.ntmps28
  go_wp2_with fail
  exact bodyPost_end (results_none rfl _ _ _) rfl ⟨rfl, HT.out.1, HT.out.2⟩
set_option maxHeartbeats 1000000 in
theorem age_run {w : World} {b : Nat} {R : Nat → Kp × Option Nat} {t c : Int} (r : Kp × Option Nat) (h : SeAt w b R t c) (h0 : 0 ≤ r.1.born) (h1 : r.1.born ≤ t) (h2 : t ≤ 9223372036854775807) : Calls Tryz.prog 39 #[.pointer (some ⟨b, 0, none⟩), .agg (SC 71 (slR r))] w fun e w' => e = .returned (.int .i64 (t - r.1.born)) ∧ Below w.heap.size w w' := by
  go_enter Tryz.func39, Tryz.ntmps39
  go_wp2_with (refine wl_box (by rfl) ?_; intro g w1 hg g1 hB1; refine Hid.out ?_)
  refine Hid.mk ?_
  have c1 := sl_born g1
  have c2 := (h.kept hB1).time
  clear g1 hg h
  go_wp2_with fail
  go_quiet (fail)
  go_wp2_with fail
  go_ret
  exact ⟨rfl, below_drewN hB1 _⟩
set_option maxHeartbeats 1000000 in
theorem old_run {w : World} {b : Nat} {R : Nat → Kp × Option Nat} {t c : Int} (r : Kp × Option Nat) (h : SeAt w b R t c) (h0 : 0 ≤ r.1.born) (h1 : r.1.born ≤ t) (h2 : t ≤ 9223372036854775807) : Calls Tryz.prog 33 #[.pointer (some ⟨b, 0, none⟩), .agg (SC 71 (slR r))] w fun e w' => e = .returned (.bool (oldF t r.1)) ∧ Below w.heap.size w w' := by
  go_enter Tryz.func33, Tryz.ntmps33
  go_wp2_with (refine wl_box (by rfl) ?_; intro g w1 hg g1 hB1; refine Hid.out ?_)
  refine Hid.mk ?_
  go_wp2_with (refine wl_value rfl (look_st rfl isSlot g1 (by rfl)) ?_)
  refine (age_run r (h.kept hB1) h0 h1 h2).mono ?_
  rintro e w2 ⟨rfl, hB2⟩
  go_wp2_with fail
  go_ret
  exact ⟨rfl, hB1.trans (hB2.mono hB1.size)⟩
set_option maxHeartbeats 2000000 in
theorem find_run {w : World} {b : Nat} {R : Nat → Kp × Option Nat} {t c : Int} (x : Int) (h : SeAt w b R t c) : Calls Tryz.prog 29 #[.pointer (some ⟨b, 0, none⟩), .int .u32 x] w fun e w' => e = .returned (.int .i64 (atF (fun i => (R i).1) x)) ∧ Below w.heap.size w w' := by
  have HA : Hid (∀ i, i < 3 → (∀ j, j < i → hasL (fun i => (R i).1) x j = false) → hasL (fun i => (R i).1) x i = true → atF (fun i => (R i).1) x = (i : Int)) := Hid.mk (fun i hi hj h => by
    unfold atF
    match i, hi with
    | 0, _ => rw [if_pos h]; rfl
    | 1, _ => rw [if_neg (by rw [hj 0 (by omega)]; simp), if_pos h]; rfl
    | 2, _ => rw [if_neg (by rw [hj 0 (by omega)]; simp), if_neg (by rw [hj 1 (by omega)]; simp), if_pos h]; rfl)
  have HN : Hid ((∀ j, j < 3 → hasL (fun i => (R i).1) x j = false) → atF (fun i => (R i).1) x = -1) := Hid.mk (fun hj => by
    unfold atF
    rw [if_neg (by rw [hj 0 (by omega)]; simp), if_neg (by rw [hj 1 (by omega)]; simp), if_neg (by rw [hj 2 (by omega)]; simp)])
  have HL : Hid (∀ i, hasL (fun i => (R i).1) x i = (!decide ((R i).1.ep = 0) && decide ((R i).1.loc = x))) := Hid.mk (fun i => rfl)
  generalize atF (fun i => (R i).1) x = A at *
  generalize hasL (fun i => (R i).1) x = H at *
  go_enter Tryz.func29, Tryz.ntmps29
  go_wp2_with fail
  go_loopg [7] (3 : Nat) (fun gm s7 v => ∃ k : Nat, gm = 3 - k ∧ k ≤ 3 ∧ s7 = .int .i64 (k : Int) ∧ Hid (∀ j, j < k → H j = false) ∧ Below w.heap.size w v)
  case atStart => exact ⟨0, rfl, by omega, rfl, Hid.mk (fun j h => by omega), Below.refl _ _⟩
  case round =>
    obtain ⟨k, hgm, hk, rfl, HB, hB⟩ := hrel
    by_cases hlt : k < 3
    · have h0 := h.kept hB
      go_wp2_with (first | (refine wl_value rfl (exec_ix3 rfl (by rfl) (by rfl) hlt) ?_) | (refine wl_take h0 hlt (by rfl) (by intros; rfl) (by intros; rfl) ?_; intro g u1 hg g1 h1 hB1; refine Hid.out ?_))
      refine Hid.mk ?_
      replace hB := hB.trans (hB1.mono hB.size)
      go_wp2_with (refine wl_value rfl (look_st rfl isSlot g1 (by rfl)) ?_)
      refine (empty_run (R k) u1).mono ?_
      rintro e u2 ⟨rfl, hB2⟩
      have c1 := sl_loc (SAt.kept g1 hB2)
      replace hB := hB.trans (hB2.mono hB.size)
      clear g1 h1 hB1 hB2 h0
      by_cases he : (R k).1.ep = 0
      · have hHk : H k = false := by rw [HL.out k, he]; rfl
        have HB' : Hid (∀ j, j < k + 1 → H j = false) := Hid.mk (fun j hj => by by_cases e : j = k; exact e ▸ hHk; exact HB.out j (by omega))
        clear HB hHk
        go_wp2_with fail
        go_roundg (3 - (k + 1))
        case rel => exact ⟨k + 1, rfl, by omega, by go_num, HB', hB⟩
        case measure => omega
      · by_cases hx : (R k).1.loc = x
        · have hA := HA.out k hlt HB.out (by rw [HL.out k]; simp [he, hx])
          go_wp2_with fail
          go_ret
          exact ⟨by rw [hA]; rfl, hB⟩
        · have hHk : H k = false := by rw [HL.out k]; simp [hx]
          have HB' : Hid (∀ j, j < k + 1 → H j = false) := Hid.mk (fun j hj => by by_cases e : j = k; exact e ▸ hHk; exact HB.out j (by omega))
          clear HB hHk
          go_wp2_with fail
          go_roundg (3 - (k + 1))
          case rel => exact ⟨k + 1, rfl, by omega, by go_num, HB', hB⟩
          case measure => omega
    · have hA := HN.out (fun j hj => HB.out j (by omega))
      go_wp2_with fail
      go_ret
      exact ⟨by rw [hA]; rfl, hB⟩
end Go.Proofs.YtbkbcfimpaolmaaGreat
/-
  Own text. Package session: keep, place, opened.
-/
namespace Go.Proofs.YtbkbcfimpaolmaaGreat
open Go.RowKit Go.Proofs
set_option maxRecDepth 100000
theorem touch_G1 {b : Nat} {u : World} {G : List (Nat × Cont)} (hG : ∀ x ∈ G.map (·.1), x = b) (w w' : World) (h : Touch (fun x => x = b) u w) (ht : Touch (fun k => u.heap.size ≤ k ∨ k ∈ G.map (·.1)) w w') : Touch (fun x => x = b) u w' :=
  ⟨ht.os.trans h.os, ht.tape.trans h.tape, ht.output.trans h.output, Nat.le_trans h.size ht.size, fun k hk hn => (ht.block k (Nat.lt_of_lt_of_le hk h.size) (fun e => e.elim (fun e => by omega) (fun e => hn (hG k e)))).trans (h.block k hk hn)⟩
theorem touch_tr {T : Nat → Prop} {u v w : World} (h : Touch T u v) (k : Touch T v w) : Touch T u w :=
  ⟨k.os.trans h.os, k.tape.trans h.tape, k.output.trans h.output, Nat.le_trans h.size k.size, fun i hi hn => (k.block i (Nat.lt_of_lt_of_le hi h.size) hn).trans (h.block i hi hn)⟩
theorem touch_of_below {T : Nat → Prop} {w w' : World} (h : Below w.heap.size w w') : Touch T w w' := ⟨h.os, h.tape, h.output, h.size, fun k hk _ => h.block k hk⟩
theorem keepG_no {α : Type} {ep : α → Int} {K : Nat → α} {i : Nat} (h : ep (K i) = 0) : keepG ep K i = K := by
  funext j
  unfold keepG
  rw [if_neg (fun e => e.2 h)]
theorem keepG_yes {α : Type} {ep : α → Int} {K : Nat → α} {i : Nat} (h : ep (K i) ≠ 0) : keepG ep K i = setG K 0 (K i) := by
  funext j
  unfold keepG setG
  by_cases e : j = 0
  · rw [if_pos ⟨e, h⟩, if_pos e]
  · rw [if_neg (fun h => e h.1), if_neg e]
set_option maxHeartbeats 2000000 in
theorem keep_run {w : World} {b : Nat} {R : Nat → Kp × Option Nat} {t c : Int} (i : Nat) (hi : i < 3) (h : SeAt w b R t c) : Calls Tryz.prog 53 #[.pointer (some ⟨b, 0, none⟩), .int .i64 (i : Int)] w fun e w' => e = .returned (.tuple #[]) ∧ SeAt w' b (keepG rep R i) t c ∧ Touch (fun x => x = b) w w' := by
  go_enter Tryz.func53, Tryz.ntmps53
  go_wp2_with (first | (refine wl_value rfl (exec_ix3 rfl (by rfl) (by rfl) hi) ?_) | (refine wl_take h hi (by rfl) (by intros; rfl) (by intros; rfl) ?_; intro g u1 hg g1 h1 hB1; refine Hid.out ?_))
  refine Hid.mk ?_
  go_wp2_with (refine wl_value rfl (look_st rfl isSlot g1 (by rfl)) ?_)
  refine (empty_run (R i) u1).mono ?_
  rintro e u2 ⟨rfl, hB2⟩
  have hlt := h.lt
  have hB : Below w.heap.size w u2 := hB1.trans (hB2.mono hB1.size)
  have h0 : SeAt u2 b R t c := h1.kept hB2
  have g0 := SAt.kept g1 hB2
  clear g1 h1 hB1 hB2 h
  by_cases he : (R i).1.ep = 0
  · have hr : SeAt u2 b (keepG rep R i) t c := by rw [keepG_no (show rep (R i) = 0 from he)]; exact h0
    go_wp2_with fail
    exact bodyPost_end (results_none rfl _ _ _) rfl ⟨rfl, hr, touch_of_below hB⟩
  · have HG : Hid (∀ v, Touch (fun x => x = b) u2 v → SAt v g 55 71 (slR (R i))) := Hid.mk (fun v hv => g0.tou hv (by omega))
    have HR : Hid (keepG rep R i = setG R 0 (R i)) := Hid.mk (keepG_yes he)
    go_wp2_with fail
    refine wp_region3 (Touch (fun x => x = b) u2) u2.heap.size
        [(b, ⟨isOb (SC 215 (seV (R) t c)) 58, [(5, isOb (SC 215 (seV (setG R 0 (R i)) t c)) 58)]⟩)]
        [kv (.pointer (some ⟨b, 0, none⟩)), kv (.agg (SC 71 (slR (R i)))), kv (.pointer (some ⟨b, 0, none⟩)), kv (.pointer (some ⟨b, 0, none⟩)), kv (.pointer (some ⟨b, 71 * 0, none⟩)), .val fun _ => True]
        [.none, .none, .none, .none, .none, .base 0 1]
        [some 14, some 15, some 16, some 17, some 18, none]
        [(0, .pointer (some ⟨b, 0, none⟩)), (4, .pointer (some ⟨g, 0, none⟩))]
        [[], [], [.slot 0], [.slot 2], [.slot 3], [.slot 4, .slot 1, .base 0 0]]
        [.base 0 1] [14, 15, 16, 17, 18]
        rfl (by kernel_rfl) ⟨rfl, rfl, trivial⟩ (Touch.refl _ _).drew (Nat.le_refl _) ⟨⟨h0.lt, obIn h0⟩, trivial⟩ ⟨trivial, trivial⟩ (touch_G1 (fun x hx => by simpa using hx))
        ⟨
          (fun Q aq ww own hS hBg fr kn => .inl ⟨trivial, fun K hK => wp_value (exec_move rfl fr.1) (hK _ _ ⟨Touch.refl _ _, rfl⟩)⟩),
          (fun Q aq ww own hS hBg fr kn => .inl ⟨trivial, fun K hK => wp_value (look_st rfl isSlot (HG.out ww hS) fr.2.1) (hK _ _ ⟨Touch.refl _ _, rfl⟩)⟩),
          (fun Q aq ww own hS hBg fr kn => .inl ⟨trivial, fun K hK => wp_value (exec_nilc rfl kn.1) (hK _ _ ⟨Touch.refl _ _, rfl⟩)⟩),
          (fun Q aq ww own hS hBg fr kn => .inl ⟨trivial, fun K hK => wp_value (exec_fse (k := 0) rfl kn.1 (by decide)) (hK _ _ ⟨Touch.refl _ _, rfl⟩)⟩),
          (fun Q aq ww own hS hBg fr kn => .inl ⟨trivial, fun K hK => wp_value (exec_ix3 (i := 0) rfl kn.1 rfl (by decide)) (hK _ _ ⟨Touch.refl _ _, rfl⟩)⟩),
          (fun Q aq ww own hS hBg fr kn => .inl ⟨trivial, fun K hK => act_slot (i := 0) rfl kn.1 kn.2.1 (by decide) (obAt kn.2.2.1) (fun w2 hg ho => hK _ _ ⟨⟨touch_only ho, obIn hg⟩, trivial⟩)⟩),
          trivial⟩ ?_
    intro vs own u3 hT3 hsz kn inj
    have g7 : SeAt u3 b (setG R 0 (R i)) t c := obAt kn.1
    clear kn inj hsz HG
    simp only [putAll, Act.put, List.setIfInBounds_toArray, List.set_cons_zero, List.set_cons_succ]
    go_wp2_with fail
    exact bodyPost_end (results_none rfl _ _ _) rfl ⟨rfl, by rw [HR.out]; exact g7, touch_tr (touch_of_below hB) hT3⟩
end Go.Proofs.YtbkbcfimpaolmaaGreat
/-
  Own text. Package session: place, opened.
-/
namespace Go.Proofs.YtbkbcfimpaolmaaGreat
open Go.RowKit Go.Proofs
set_option maxRecDepth 100000
set_option maxHeartbeats 4000000 in
theorem place_run {w : World} {b : Nat} {R : Nat → Kp × Option Nat} {t c : Int} (r : Kp × Option Nat) (h : SeAt w b R t c) : Calls Tryz.prog 30 #[.pointer (some ⟨b, 0, none⟩), .agg (SC 71 (slR r))] w fun e w' => e = .returned (.tuple #[]) ∧ SeAt w' b (placeG rep R r rz r.1.fst) t c ∧ Touch (fun x => x = b) w w' := by
  go_enter Tryz.func30, Tryz.ntmps30
  go_wp2_with (refine wl_box (by rfl) ?_; intro g u1 hg g1 hB; refine Hid.out ?_)
  refine Hid.mk ?_
  have hlt := h.lt
  have h0 := h.kept hB
  have c1 := sl_fst g1
  clear h
  by_cases hf : r.1.fst = true
  · have HP : Hid (placeG rep R r rz r.1.fst = setG (setG (keepG rep (keepG rep R 1) 2) 1 r) 2 rz) := Hid.mk (by unfold placeG; rw [if_pos hf])
    rw [hf] at c1
    clear hf
    go_wp2_with fail
    refine (keep_run 1 (by decide) h0).mono ?_
    rintro e u2 ⟨rfl, h2, hT2⟩
    have g2 := g1.tou hT2 (by omega)
    clear h0 g1 c1
    go_wp2_with fail
    refine (keep_run 2 (by decide) h2).mono ?_
    rintro e u3 ⟨rfl, h0, hT3⟩
    have g3 := g2.tou hT3 (by omega)
    have hT := touch_tr (touch_tr (touch_of_below hB) hT2) hT3
    clear h2 g2 hT2 hT3
    generalize keepG rep (keepG rep R 1) 2 = R2 at *
    have HG : Hid (∀ v, Touch (fun x => x = b) u3 v → SAt v g 55 71 (slR r)) := Hid.mk (fun v hv => g3.tou hv (by omega))
    go_wp2_with fail
    refine wp_region3 (Touch (fun x => x = b) u3) u3.heap.size
        [(b, ⟨isOb (SC 215 (seV (R2) t c)) 58, [(7, isOb (SC 215 (seV (setG R2 1 r) t c)) 58), (11, isOb (SC 215 (seV (setG (setG R2 1 r) 2 rz) t c)) 58)]⟩)]
        [kv (.pointer (some ⟨b, 0, none⟩)), kv (.pointer (some ⟨b, 0, none⟩)), kv (.agg (SC 71 (slR (r)))), kv (.agg (SC 71 (slR (rz)))), kv (.pointer (some ⟨b, 0, none⟩)), kv (.pointer (some ⟨b, 0, none⟩)), kv (.pointer (some ⟨b, 71 * 1, none⟩)), .val fun _ => True, kv (.pointer (some ⟨b, 0, none⟩)), kv (.pointer (some ⟨b, 0, none⟩)), kv (.pointer (some ⟨b, 71 * 2, none⟩)), .val fun _ => True]
        [.none, .none, .none, .none, .none, .none, .none, .base 0 1, .none, .none, .none, .base 0 2]
        [some 16, some 17, some 18, some 19, some 20, some 21, some 22, none, some 23, some 24, some 25, none]
        [(0, .pointer (some ⟨b, 0, none⟩)), (3, .pointer (some ⟨g, 0, none⟩))]
        [[], [], [], [], [.slot 0], [.slot 4], [.slot 5], [.slot 6, .slot 2, .base 0 0], [.slot 1], [.slot 8], [.slot 9], [.slot 10, .slot 3, .base 0 1]]
        [.base 0 2] [16, 17, 18, 19, 20, 21, 22, 23, 24, 25]
        rfl (by kernel_rfl) ⟨rfl, rfl, trivial⟩ (Touch.refl _ _).drew (Nat.le_refl _) ⟨⟨h0.lt, obIn h0⟩, trivial⟩ ⟨trivial, trivial⟩ (touch_G1 (fun x hx => by simpa using hx))
        ⟨
          (fun Q aq ww own hS hBg fr kn => .inl ⟨trivial, fun K hK => wp_value (exec_move rfl fr.1) (hK _ _ ⟨Touch.refl _ _, rfl⟩)⟩),
          (fun Q aq ww own hS hBg fr kn => .inl ⟨trivial, fun K hK => wp_value (exec_move rfl fr.1) (hK _ _ ⟨Touch.refl _ _, rfl⟩)⟩),
          (fun Q aq ww own hS hBg fr kn => .inl ⟨trivial, fun K hK => wp_value (look_st rfl isSlot (HG.out ww hS) fr.2.1) (hK _ _ ⟨Touch.refl _ _, rfl⟩)⟩),
          (fun Q aq ww own hS hBg fr kn => .inl ⟨trivial, fun K hK => wp_value (exec_slZ rfl) (hK _ _ ⟨Touch.refl _ _, rfl⟩)⟩),
          (fun Q aq ww own hS hBg fr kn => .inl ⟨trivial, fun K hK => wp_value (exec_nilc rfl kn.1) (hK _ _ ⟨Touch.refl _ _, rfl⟩)⟩),
          (fun Q aq ww own hS hBg fr kn => .inl ⟨trivial, fun K hK => wp_value (exec_fse (k := 0) rfl kn.1 (by decide)) (hK _ _ ⟨Touch.refl _ _, rfl⟩)⟩),
          (fun Q aq ww own hS hBg fr kn => .inl ⟨trivial, fun K hK => wp_value (exec_ix3 (i := 1) rfl kn.1 rfl (by decide)) (hK _ _ ⟨Touch.refl _ _, rfl⟩)⟩),
          (fun Q aq ww own hS hBg fr kn => .inl ⟨trivial, fun K hK => act_slot (i := 1) rfl kn.1 kn.2.1 (by decide) (obAt kn.2.2.1) (fun w2 hg ho => hK _ _ ⟨⟨touch_only ho, obIn hg⟩, trivial⟩)⟩),
          (fun Q aq ww own hS hBg fr kn => .inl ⟨trivial, fun K hK => wp_value (exec_nilc rfl kn.1) (hK _ _ ⟨Touch.refl _ _, rfl⟩)⟩),
          (fun Q aq ww own hS hBg fr kn => .inl ⟨trivial, fun K hK => wp_value (exec_fse (k := 0) rfl kn.1 (by decide)) (hK _ _ ⟨Touch.refl _ _, rfl⟩)⟩),
          (fun Q aq ww own hS hBg fr kn => .inl ⟨trivial, fun K hK => wp_value (exec_ix3 (i := 2) rfl kn.1 rfl (by decide)) (hK _ _ ⟨Touch.refl _ _, rfl⟩)⟩),
          (fun Q aq ww own hS hBg fr kn => .inl ⟨trivial, fun K hK => act_slot (i := 2) rfl kn.1 kn.2.1 (by decide) (obAt kn.2.2.1) (fun w2 hg ho => hK _ _ ⟨⟨touch_only ho, obIn hg⟩, trivial⟩)⟩),
          trivial⟩ ?_
    intro vs own u4 hT4 hsz kn inj
    have g7 : SeAt u4 b (setG (setG R2 1 r) 2 rz) t c := obAt kn.1
    clear kn inj hsz HG
    simp only [putAll, Act.put, List.setIfInBounds_toArray, List.set_cons_zero, List.set_cons_succ]
    go_wp2_with fail
    exact bodyPost_end (results_none rfl _ _ _) rfl ⟨rfl, by rw [HP.out]; exact g7, touch_tr hT hT4⟩
  · have hf' : r.1.fst = false := by cases hh : r.1.fst; rfl; exact absurd hh hf
    have HP : Hid (placeG rep R r rz r.1.fst = setG R 2 r) := Hid.mk (by unfold placeG; rw [if_neg hf])
    rw [hf'] at c1
    clear hf hf'
    have HG : Hid (∀ v, Touch (fun x => x = b) u1 v → SAt v g 55 71 (slR r)) := Hid.mk (fun v hv => g1.tou hv (by omega))
    go_wp2_with fail
    refine wp_region3 (Touch (fun x => x = b) u1) u1.heap.size
        [(b, ⟨isOb (SC 215 (seV (R) t c)) 58, [(5, isOb (SC 215 (seV (setG R 2 r) t c)) 58)]⟩)]
        [kv (.pointer (some ⟨b, 0, none⟩)), kv (.agg (SC 71 (slR (r)))), kv (.pointer (some ⟨b, 0, none⟩)), kv (.pointer (some ⟨b, 0, none⟩)), kv (.pointer (some ⟨b, 71 * 2, none⟩)), .val fun _ => True]
        [.none, .none, .none, .none, .none, .base 0 1]
        [some 7, some 8, some 9, some 10, some 11, none]
        [(0, .pointer (some ⟨b, 0, none⟩)), (3, .pointer (some ⟨g, 0, none⟩))]
        [[], [], [.slot 0], [.slot 2], [.slot 3], [.slot 4, .slot 1, .base 0 0]]
        [.base 0 1] [7, 8, 9, 10, 11]
        rfl (by kernel_rfl) ⟨rfl, rfl, trivial⟩ (Touch.refl _ _).drew (Nat.le_refl _) ⟨⟨h0.lt, obIn h0⟩, trivial⟩ ⟨trivial, trivial⟩ (touch_G1 (fun x hx => by simpa using hx))
        ⟨
          (fun Q aq ww own hS hBg fr kn => .inl ⟨trivial, fun K hK => wp_value (exec_move rfl fr.1) (hK _ _ ⟨Touch.refl _ _, rfl⟩)⟩),
          (fun Q aq ww own hS hBg fr kn => .inl ⟨trivial, fun K hK => wp_value (look_st rfl isSlot (HG.out ww hS) fr.2.1) (hK _ _ ⟨Touch.refl _ _, rfl⟩)⟩),
          (fun Q aq ww own hS hBg fr kn => .inl ⟨trivial, fun K hK => wp_value (exec_nilc rfl kn.1) (hK _ _ ⟨Touch.refl _ _, rfl⟩)⟩),
          (fun Q aq ww own hS hBg fr kn => .inl ⟨trivial, fun K hK => wp_value (exec_fse (k := 0) rfl kn.1 (by decide)) (hK _ _ ⟨Touch.refl _ _, rfl⟩)⟩),
          (fun Q aq ww own hS hBg fr kn => .inl ⟨trivial, fun K hK => wp_value (exec_ix3 (i := 2) rfl kn.1 rfl (by decide)) (hK _ _ ⟨Touch.refl _ _, rfl⟩)⟩),
          (fun Q aq ww own hS hBg fr kn => .inl ⟨trivial, fun K hK => act_slot (i := 2) rfl kn.1 kn.2.1 (by decide) (obAt kn.2.2.1) (fun w2 hg ho => hK _ _ ⟨⟨touch_only ho, obIn hg⟩, trivial⟩)⟩),
          trivial⟩ ?_
    intro vs own u4 hT4 hsz kn inj
    have g7 : SeAt u4 b (setG R 2 r) t c := obAt kn.1
    clear kn inj hsz HG
    simp only [putAll, Act.put, List.setIfInBounds_toArray, List.set_cons_zero, List.set_cons_succ]
    go_wp2_with fail
    exact bodyPost_ret (results_none rfl _ _ _) rfl ⟨rfl, by rw [HP.out]; exact g7, touch_tr (touch_of_below hB) hT4⟩
def openedR (R : Nat → Kp × Option Nat) (i : Nat) : Nat → Kp × Option Nat :=
  let R2 := if i = 2 then movedG rep R rz else R
  if i ≠ 0 ∧ 8192 ≤ topF (R2 1).1.s (R2 1).1.n then setG R2 0 rz else R2
set_option maxHeartbeats 2000000 in
theorem opened0_run {w : World} {b : Nat} {R : Nat → Kp × Option Nat} {t c : Int} (h : SeAt w b R t c) : Calls Tryz.prog 47 #[.pointer (some ⟨b, 0, none⟩), .int .i64 0] w fun e w' => e = .returned (.tuple #[]) ∧ SeAt w' b R t c ∧ Touch (fun x => x = b) w w' := by
  go_enter Tryz.func47, Tryz.ntmps47
  go_wp2_with fail
  exact bodyPost_end (results_none rfl _ _ _) rfl ⟨rfl, h, Touch.refl _ _⟩
theorem ret1_eq {R : Nat → Kp × Option Nat} (h : 8192 ≤ topF (R 1).1.s (R 1).1.n) : openedR R 1 = setG R 0 rz := by
  unfold openedR
  simp only [show ¬ (1 = 2) by decide, if_false]
  rw [if_pos ⟨by decide, h⟩]
theorem ret1_ne {R : Nat → Kp × Option Nat} (h : ¬ 8192 ≤ topF (R 1).1.s (R 1).1.n) : openedR R 1 = R := by
  unfold openedR
  simp only [show ¬ (1 = 2) by decide, if_false]
  rw [if_neg (fun e => h e.2)]
set_option maxHeartbeats 4000000 in
theorem opened1_run {w : World} {b g : Nat} {R : Nat → Kp × Option Nat} {t c : Int} {S : Nat → Prop} (h : SeAt w b R t c) (hg : (R 1).2 = some g) (hW : Win64 w g 8192 (R 1).1.n (R 1).1.s S) : Calls Tryz.prog 47 #[.pointer (some ⟨b, 0, none⟩), .int .i64 1] w fun e w' => e = .returned (.tuple #[]) ∧ SeAt w' b (openedR R 1) t c ∧ Touch (fun x => x = b) w w' := by
  have c1 : w.cell? ⟨b, 141, none⟩ = some (.pointer (some ⟨g, 0, none⟩)) := by have := h.cell 1 70 (by omega) (by omega); rw [show (slR (R 1) 70) = ptV (R 1).2 from rfl, hg] at this; exact this
  have hlt := h.lt
  go_enter Tryz.func47, Tryz.ntmps47
  go_wp2_with fail
  refine (top_win64 hW).mono ?_
  rintro e u5 ⟨rfl, hB5⟩
  have h5 : SeAt u5 b R t c := h.kept hB5
  have hT5 : Touch (fun x => x = b) w u5 := touch_of_below hB5
  clear c1
  by_cases ht : 8192 ≤ topF (R 1).1.s (R 1).1.n
  · have HE := Hid.mk (ret1_eq ht)
    generalize topF (R 1).1.s (R 1).1.n = tp at *
    go_wp2_with (first | (refine wl_value rfl (exec_slZ rfl) ?_) | (refine wl_value rfl (exec_ix3 (i := 0) rfl (by rfl) (by rfl) (by decide)) ?_) | (refine wl_act rfl (act_slot (i := 0) rfl (by rfl) (by rfl) (by decide) h5 ?_); intro u6 h6 o6; refine Hid.out ?_))
    refine Hid.mk ?_
    go_wp2_with fail
    exact bodyPost_end (results_none rfl _ _ _) rfl ⟨rfl, by rw [HE.out]; exact h6, touch_tr hT5 (touch_only o6)⟩
  · have HE := Hid.mk (ret1_ne ht)
    generalize topF (R 1).1.s (R 1).1.n = tp at *
    go_wp2_with fail
    exact bodyPost_end (results_none rfl _ _ _) rfl ⟨rfl, by rw [HE.out]; exact h5, hT5⟩
set_option maxHeartbeats 8000000 in
theorem opened2_run {w : World} {b g : Nat} {R : Nat → Kp × Option Nat} {t c : Int} {S : Nat → Prop} (h : SeAt w b R t c) (hg : (R 2).2 = some g) (hW : Win64 w g 8192 (R 2).1.n (R 2).1.s S) (hbS : ¬ S b) : Calls Tryz.prog 47 #[.pointer (some ⟨b, 0, none⟩), .int .i64 2] w fun e w' => e = .returned (.tuple #[]) ∧ SeAt w' b (openedR (movedG rep R rz) 1) t c ∧ Touch (fun x => x = b) w w' := by
  have hlt := h.lt
  have hk2 : keepG rep R 1 2 = R 2 := by unfold keepG; rw [if_neg (by omega)]
  have hm1 : movedG rep R rz 1 = R 2 := by unfold movedG setG; rw [if_neg (by omega), if_pos rfl]
  have HM : Hid (movedG rep R rz = setG (setG (keepG rep R 1) 1 (R 2)) 2 rz) := Hid.mk rfl
  go_enter Tryz.func47, Tryz.ntmps47
  go_wp2_with fail
  refine (keep_run 1 (by decide) h).mono ?_
  rintro e u1 ⟨rfl, h0, hT1⟩
  replace hW := kept_win64 hW (fun k hk => hT1.block k (lt_win64 hW k hk) (fun e => hbS (e ▸ hk)))
  clear h
  go_wp2_with fail
  refine wp_region3 (Touch (fun x => x = b) u1) u1.heap.size
      [(b, ⟨isOb (SC 215 (seV (keepG rep R 1) t c)) 58, [(11, isOb (SC 215 (seV (setG (keepG rep R 1) 1 (R 2)) t c)) 58), (15, isOb (SC 215 (seV (setG (setG (keepG rep R 1) 1 (R 2)) 2 rz) t c)) 58)]⟩)]
      [kv (.pointer (some ⟨b, 0, none⟩)), kv (.pointer (some ⟨b, 0, none⟩)), kv (.pointer (some ⟨b, 0, none⟩)), kv (.pointer (some ⟨b, 0, none⟩)), kv (.pointer (some ⟨b, 0, none⟩)), kv (.pointer (some ⟨b, 71 * 2, none⟩)), kv (.agg (SC 71 (slR (R 2)))), kv (.agg (SC 71 (slR (rz)))), kv (.pointer (some ⟨b, 0, none⟩)), kv (.pointer (some ⟨b, 0, none⟩)), kv (.pointer (some ⟨b, 71 * 1, none⟩)), .val fun _ => True, kv (.pointer (some ⟨b, 0, none⟩)), kv (.pointer (some ⟨b, 0, none⟩)), kv (.pointer (some ⟨b, 71 * 2, none⟩)), .val fun _ => True]
      [.none, .none, .none, .none, .none, .none, .none, .none, .none, .none, .none, .base 0 1, .none, .none, .none, .base 0 2]
      [some 8, some 9, some 10, some 11, some 12, some 13, some 14, some 15, some 16, some 17, some 18, none, some 19, some 20, some 21, none]
      [(0, .pointer (some ⟨b, 0, none⟩))]
      [[], [], [], [.slot 2], [.slot 3], [.slot 4], [.slot 5, .base 0 0], [], [.slot 0], [.slot 8], [.slot 9], [.slot 10, .slot 6, .base 0 0], [.slot 1], [.slot 12], [.slot 13], [.slot 14, .slot 7, .base 0 1]]
      [.base 0 2] [8, 9, 10, 11, 12, 13, 14, 15, 16, 17, 18, 19, 20, 21]
      rfl (by kernel_rfl) ⟨rfl, trivial⟩ (Touch.refl _ _).drew (Nat.le_refl _) ⟨⟨h0.lt, obIn h0⟩, trivial⟩ ⟨trivial, trivial⟩ (touch_G1 (fun x hx => by simpa using hx))
      ⟨
        (fun Q aq ww own hS hBg fr kn => .inl ⟨trivial, fun K hK => wp_value (exec_move rfl fr.1) (hK _ _ ⟨Touch.refl _ _, rfl⟩)⟩),
        (fun Q aq ww own hS hBg fr kn => .inl ⟨trivial, fun K hK => wp_value (exec_move rfl fr.1) (hK _ _ ⟨Touch.refl _ _, rfl⟩)⟩),
        (fun Q aq ww own hS hBg fr kn => .inl ⟨trivial, fun K hK => wp_value (exec_move rfl fr.1) (hK _ _ ⟨Touch.refl _ _, rfl⟩)⟩),
        (fun Q aq ww own hS hBg fr kn => .inl ⟨trivial, fun K hK => wp_value (exec_nilc rfl kn.1) (hK _ _ ⟨Touch.refl _ _, rfl⟩)⟩),
        (fun Q aq ww own hS hBg fr kn => .inl ⟨trivial, fun K hK => wp_value (exec_fse (k := 0) rfl kn.1 (by decide)) (hK _ _ ⟨Touch.refl _ _, rfl⟩)⟩),
        (fun Q aq ww own hS hBg fr kn => .inl ⟨trivial, fun K hK => wp_value (exec_ix3 (i := 2) rfl kn.1 rfl (by decide)) (hK _ _ ⟨Touch.refl _ _, rfl⟩)⟩),
        (fun Q aq ww own hS hBg fr kn => .inl ⟨trivial, fun K hK => wp_value ((congrArg (fun r => (_ = Result.ok (Next.value (.agg (SC 71 (slR r)))) ww)) hk2).mp (exec_ldslot (i := 2) rfl kn.1 (by decide) (obAt kn.2.1))) (hK _ _ ⟨Touch.refl _ _, rfl⟩)⟩),
        (fun Q aq ww own hS hBg fr kn => .inl ⟨trivial, fun K hK => wp_value (exec_slZ rfl) (hK _ _ ⟨Touch.refl _ _, rfl⟩)⟩),
        (fun Q aq ww own hS hBg fr kn => .inl ⟨trivial, fun K hK => wp_value (exec_nilc rfl kn.1) (hK _ _ ⟨Touch.refl _ _, rfl⟩)⟩),
        (fun Q aq ww own hS hBg fr kn => .inl ⟨trivial, fun K hK => wp_value (exec_fse (k := 0) rfl kn.1 (by decide)) (hK _ _ ⟨Touch.refl _ _, rfl⟩)⟩),
        (fun Q aq ww own hS hBg fr kn => .inl ⟨trivial, fun K hK => wp_value (exec_ix3 (i := 1) rfl kn.1 rfl (by decide)) (hK _ _ ⟨Touch.refl _ _, rfl⟩)⟩),
        (fun Q aq ww own hS hBg fr kn => .inl ⟨trivial, fun K hK => act_slot (i := 1) rfl kn.1 kn.2.1 (by decide) (obAt kn.2.2.1) (fun w2 hg ho => hK _ _ ⟨⟨touch_only ho, obIn hg⟩, trivial⟩)⟩),
        (fun Q aq ww own hS hBg fr kn => .inl ⟨trivial, fun K hK => wp_value (exec_nilc rfl kn.1) (hK _ _ ⟨Touch.refl _ _, rfl⟩)⟩),
        (fun Q aq ww own hS hBg fr kn => .inl ⟨trivial, fun K hK => wp_value (exec_fse (k := 0) rfl kn.1 (by decide)) (hK _ _ ⟨Touch.refl _ _, rfl⟩)⟩),
        (fun Q aq ww own hS hBg fr kn => .inl ⟨trivial, fun K hK => wp_value (exec_ix3 (i := 2) rfl kn.1 rfl (by decide)) (hK _ _ ⟨Touch.refl _ _, rfl⟩)⟩),
        (fun Q aq ww own hS hBg fr kn => .inl ⟨trivial, fun K hK => act_slot (i := 2) rfl kn.1 kn.2.1 (by decide) (obAt kn.2.2.1) (fun w2 hg ho => hK _ _ ⟨⟨touch_only ho, obIn hg⟩, trivial⟩)⟩),
        trivial⟩ ?_
  intro vs own u2 hT2 hsz kn inj
  have h2 : SeAt u2 b (setG (setG (keepG rep R 1) 1 (R 2)) 2 rz) t c := obAt kn.1
  clear kn inj hsz h0
  simp only [putAll, Act.put, List.setIfInBounds_toArray, List.set_cons_zero, List.set_cons_succ]
  replace hW := kept_win64 hW (fun k hk => hT2.block k (lt_win64 hW k hk) (fun e => hbS (e ▸ hk)))
  replace hT1 := touch_tr hT1 hT2
  clear hT2
  rw [← HM.out] at h2
  rw [← hm1] at hW hg
  clear HM hk2 hm1
  obtain ⟨R2, HR⟩ : ∃ R2, Hid (movedG rep R rz = R2) := ⟨_, Hid.mk rfl⟩
  rw [HR.out] at h2 hW hg
  have c1 : u2.cell? ⟨b, 141, none⟩ = some (.pointer (some ⟨g, 0, none⟩)) := by have := h2.cell 1 70 (by omega) (by omega); rw [show (slR (R2 1) 70) = ptV (R2 1).2 from rfl, hg] at this; exact this
  go_wp2_with fail
  refine (top_win64 hW).mono ?_
  rintro e u5 ⟨rfl, hB5⟩
  have h5 : SeAt u5 b R2 t c := h2.kept hB5
  have hT5 : Touch (fun x => x = b) w u5 := touch_tr hT1 (touch_of_below hB5)
  clear c1
  by_cases ht : 8192 ≤ topF (R2 1).1.s (R2 1).1.n
  · have HE := Hid.mk (ret1_eq ht)
    generalize topF (R2 1).1.s (R2 1).1.n = tp at *
    go_wp2_with (first | (refine wl_value rfl (exec_slZ rfl) ?_) | (refine wl_value rfl (exec_ix3 (i := 0) rfl (by rfl) (by rfl) (by decide)) ?_) | (refine wl_act rfl (act_slot (i := 0) rfl (by rfl) (by rfl) (by decide) h5 ?_); intro u6 h6 o6; refine Hid.out ?_))
    refine Hid.mk ?_
    go_wp2_with fail
    exact bodyPost_end (results_none rfl _ _ _) rfl ⟨rfl, by rw [HR.out, HE.out]; exact h6, touch_tr hT5 (touch_only o6)⟩
  · have HE := Hid.mk (ret1_ne ht)
    generalize topF (R2 1).1.s (R2 1).1.n = tp at *
    go_wp2_with fail
    exact bodyPost_end (results_none rfl _ _ _) rfl ⟨rfl, by rw [HR.out, HE.out]; exact h5, hT5⟩
end Go.Proofs.YtbkbcfimpaolmaaGreat
/-
  Own text. A region that leaves its order open, cut in two: behind the first m operations, whatever their order, the others come one by one. No program is named here.
-/
namespace Go.Proofs.YtbkbcfimpaolmaaGreat
open Go
section
variable {P : Program} {ops : Array Oper} {Q : Exit → Act → World → Prop}
def headOps (ops : Array Oper) (m : Nat) : Array Oper := (ops.toList.take m).toArray
def cutQ (P : Program) (ops : Array Oper) (Q : Exit → Act → World → Prop) (m : Nat) : Exit → Act → World → Prop
  | .normal, a, w => wpList P ops Q (ops.toList.drop m) a w
  | e, a, w => Q e a w
theorem upon_cut {m : Nat} {o : Oper} {a : Act} {K : Act → World → Prop} {r : Result Next} : o.upon P a K (cutQ P ops Q m) r = o.upon P a K Q r := by
  cases r with
  | ok n w => cases n <;> rfl
  | halt x w => cases x <;> rfl
theorem head_at {m i : Nat} (h : i < m) : (headOps ops m)[i]? = ops[i]? := by
  simp [headOps, h]
theorem head_none {m i : Nat} (h : m ≤ i) : (headOps ops m)[i]? = none := by
  simp [headOps, List.getElem?_take]
  omega
def waits (o : Oper) (j : Nat) : Bool := o.after.any (fun e => Region.binds .any e && e.on == j)
def cutB (ops : Array Oper) (m : Nat) : Bool :=
  decide (m < ops.size) && ops.all (·.guard.isNone) &&
  (List.range ops.size).all (fun i => match ops[i]? with | some o => o.after.all (fun e => decide (e.on < i)) | none => true) &&
  (List.range m).all (fun j => (List.range (m + 1)).any (fun i => decide (j < i) && (match ops[i]? with | some o => waits o j | none => false))) &&
  (List.range ops.size).all (fun i => decide (i ≤ m) || (match ops[i]? with | some o => waits o (i - 1) | none => false))
theorem any_mem {α : Type} {l : Array α} {p : α → Bool} (h : l.any p = true) : ∃ e ∈ l, p e = true := by
  obtain ⟨i, hi, hp⟩ := Array.any_eq_true.1 h
  exact ⟨l[i], Array.getElem_mem hi, hp⟩
theorem getD_rep (n j : Nat) : (Array.replicate n false).getD j false = false := by
  rw [Array.getD_eq_getD_getElem?]
  by_cases h : j < n
  · rw [Array.getElem?_eq_getElem (by simpa using h)]
    simp
  · rw [Array.getElem?_eq_none (by simp; omega)]
    rfl
theorem wanted_none {o : Oper} {ys : Nat → Option Bool} (h : o.guard.isNone = true) : Region.wanted o ys = true := by
  cases hg : o.guard with
  | none => simp [Region.wanted, hg]
  | some x => rw [hg] at h; cases h
/-- Which came up already, and that with each all that it waits for did. -/
structure Closed (ops : Array Oper) (listed : Array Bool) : Prop where
  size : listed.size = ops.size
  down : ∀ (i : Nat) (o : Oper), listed.getD i false = true → ops[i]? = some o → ∀ e ∈ o.after, Region.binds .any e = true → listed.getD e.on false = true
theorem getD_both {listed : Array Bool} {i : Nat} (h : i < listed.size) : listed.getD i true = listed.getD i false := by simp [h]
theorem Closed.set {listed : Array Bool} {i : Nat} (h : Closed ops listed) (hi : i ∈ Region.ready .any ops listed) : Closed ops (listed.setIfInBounds i true) := by
  obtain ⟨hun, o, ho, hall⟩ := mem_ready.1 hi
  refine ⟨by simp [h.size], fun j oj hj hoj e he hb => ?_⟩
  have key : listed.getD e.on false = true := by
    by_cases hij : i = j
    · subst hij
      rw [ho] at hoj
      obtain rfl := Option.some.inj hoj
      exact hall e he hb
    · rw [getD_set_ne false hij] at hj
      exact h.down j oj hj hoj e he hb
  by_cases hie : i = e.on
  · have hl : i < listed.size := by
      rcases Nat.lt_or_ge i listed.size with h1 | h1
      · exact h1
      · simp [Array.getElem?_eq_none h1] at hun
    rw [← hie]
    simp [hl]
  · rw [getD_set_ne false hie]
    exact key
/-- THE LAW: a region, cut. -/
theorem wp_region_cut {id : Nat} {a0 : Act} {w0 : World} (m : Nat) (hm : P.follows .mixedOrders = true) (hc : cutB ops m = true)
    (h : wpAny P .any (headOps ops m) (cutQ P ops Q m) (headOps ops m).size (Array.replicate (headOps ops m).size false) a0 { w0 with drawn := w0.drawn + 1 }) : (Code.region id ops true).wp P Q a0 w0 := by
  simp only [cutB, Bool.and_eq_true, decide_eq_true_eq] at hc
  obtain ⟨⟨⟨⟨hlt, hgd⟩, hdn⟩, hwt⟩, hch⟩ := hc
  have hhs : (headOps ops m).size = m := by simp [headOps]; omega
  have guard : ∀ (i : Nat) (o : Oper), ops[i]? = some o → o.guard.isNone = true := fun i o ho => by
    have hi := (Array.getElem?_eq_some_iff.1 ho)
    have := Array.all_eq_true.1 hgd i hi.1
    rw [hi.2] at this
    exact this
  have down : ∀ (i : Nat) (o : Oper), ops[i]? = some o → ∀ e ∈ o.after, e.on < i := fun i o ho e he => by
    have h1 := List.all_eq_true.1 hdn i (List.mem_range.2 (Array.getElem?_eq_some_iff.1 ho).1)
    simp only [ho] at h1
    have h2 := Array.all_eq_true_iff_forall_mem.1 h1 e he
    simpa using h2
  have chain : ∀ (i : Nat) (o : Oper), ops[i]? = some o → m < i → ∃ e ∈ o.after, Region.binds .any e = true ∧ e.on = i - 1 := fun i o ho hi => by
    have h1 := List.all_eq_true.1 hch i (List.mem_range.2 (Array.getElem?_eq_some_iff.1 ho).1)
    simp only [ho, Bool.or_eq_true, decide_eq_true_eq] at h1
    rcases h1 with h1 | h1
    · omega
    · unfold waits at h1
      obtain ⟨e, he, hh⟩ := any_mem h1
      simp only [Bool.and_eq_true, beq_iff_eq] at hh
      exact ⟨e, he, hh.1, hh.2⟩
  have succ : ∀ j, j < m → ∃ (i : Nat) (o : Oper), j < i ∧ i ≤ m ∧ ops[i]? = some o ∧ ∃ e ∈ o.after, Region.binds .any e = true ∧ e.on = j := fun j hj => by
    have h1 := List.all_eq_true.1 hwt j (List.mem_range.2 hj)
    obtain ⟨i, hi, hh⟩ := List.any_eq_true.1 h1
    simp only [Bool.and_eq_true, decide_eq_true_eq] at hh
    obtain ⟨hji, hw⟩ := hh
    cases ho : ops[i]? with
    | none => simp only [ho] at hw; cases hw
    | some o =>
      simp only [ho] at hw
      unfold waits at hw
      obtain ⟨e, he, hh⟩ := any_mem hw
      simp only [Bool.and_eq_true, beq_iff_eq] at hh
      exact ⟨i, o, hji, by have := List.mem_range.1 hi; omega, ho, e, he, hh.1, hh.2⟩
  have full : ∀ listed, Closed ops listed → m ∈ Region.ready .any ops listed → ∀ j, j < m → listed.getD j false = true := fun listed hcl hr => by
    obtain ⟨_, om, hom, hall⟩ := mem_ready.1 hr
    have key : ∀ d j, j < m → m - j ≤ d → listed.getD j false = true := by
      intro d
      induction d with
      | zero => intro j hj hd; omega
      | succ d ih =>
        intro j hj hd
        obtain ⟨i, o, hji, him, ho, e, he, hb, hon⟩ := succ j hj
        by_cases e1 : i = m
        · subst e1
          rw [hom] at ho
          obtain rfl := Option.some.inj ho
          rw [← hon]
          exact hall e he hb
        · rw [← hon]
          exact hcl.down i o (ih i (by omega) (by omega)) ho e he hb
    exact fun j hj => key m j hj (by omega)
  have done : ∀ listed, Closed ops listed → Region.ready .any ops listed = [] → ∀ j, j < ops.size → listed.getD j false = true := fun listed hcl hr => by
    have key : ∀ d j, j ≤ d → j < ops.size → listed.getD j false = true := by
      intro d
      induction d with
      | zero =>
        intro j hj hjs
        have hj0 : j = 0 := by omega
        subst hj0
        rcases Bool.eq_false_or_eq_true (listed.getD 0 false) with h1 | h1
        · exact h1
        · exfalso
          have ho : ops[0]? = some (ops[0]'hjs) := Array.getElem?_eq_getElem hjs
          have : 0 ∈ Region.ready .any ops listed := mem_ready.2 ⟨by rw [getD_both (by rw [hcl.size]; exact hjs)]; exact h1, _, ho, fun e he _ => by have := down 0 _ ho e he; omega⟩
          rw [hr] at this
          cases this
      | succ d ih =>
        intro j hj hjs
        rcases Bool.eq_false_or_eq_true (listed.getD j false) with h1 | h1
        · exact h1
        · exfalso
          have ho : ops[j]? = some (ops[j]'hjs) := Array.getElem?_eq_getElem hjs
          have : j ∈ Region.ready .any ops listed := mem_ready.2 ⟨by rw [getD_both (by rw [hcl.size]; exact hjs)]; exact h1, _, ho, fun e he _ => by have := down j _ ho e he; exact ih e.on (by omega) (by omega)⟩
          rw [hr] at this
          cases this
    exact fun j hj => key j j (Nat.le_refl _) hj
  refine wp_region_any hm (wpAny_inv (fun listed a w => Closed ops listed ∧
    ((∃ fuel lh, lh.size = m ∧ (∀ j, j < m → lh.getD j false = listed.getD j false) ∧ (∀ j, m ≤ j → listed.getD j false = false) ∧ wpAny P .any (headOps ops m) (cutQ P ops Q m) fuel lh a w) ∨
     (∃ t, 0 < t ∧ (∀ j, j < ops.size → (listed.getD j false = true ↔ j < m + t)) ∧ wpList P ops Q (ops.toList.drop (m + t)) a w))) ?_ ?_ ops.size _ a0 _ ?_ ?_)
  · rintro listed a w i ⟨hcl, hI⟩ hi
    have hi0 := hi
    obtain ⟨hun, o, ho, hall⟩ := mem_ready.1 hi
    have his : i < ops.size := (Array.getElem?_eq_some_iff.1 ho).1
    have hls : i < listed.size := by rw [hcl.size]; exact his
    have hunf : listed.getD i false = false := by rw [← getD_both hls]; exact hun
    have hcl' := hcl.set hi0
    have tailStep : ∀ t, (∀ j, j < ops.size → (listed.getD j false = true ↔ j < m + t)) → i = m + t → wpList P ops Q (ops.toList.drop (m + t)) a w → wpOp P ops Q i (fun a' w' => Closed ops (listed.setIfInBounds i true) ∧
        ((∃ fuel lh, lh.size = m ∧ (∀ j, j < m → lh.getD j false = (listed.setIfInBounds i true).getD j false) ∧ (∀ j, m ≤ j → (listed.setIfInBounds i true).getD j false = false) ∧ wpAny P .any (headOps ops m) (cutQ P ops Q m) fuel lh a' w') ∨
         (∃ t, 0 < t ∧ (∀ j, j < ops.size → ((listed.setIfInBounds i true).getD j false = true ↔ j < m + t)) ∧ wpList P ops Q (ops.toList.drop (m + t)) a' w'))) a w := fun t hl hit hw => by
      have hd : ops.toList.drop (m + t) = o :: ops.toList.drop (m + (t + 1)) := by
        rw [List.drop_eq_getElem_cons (by simpa [← hit] using his)]
        congr 1
        have := (Array.getElem?_eq_some_iff.1 ho).2
        simpa [← hit] using this
      rw [hd] at hw
      unfold wpList at hw
      rw [if_pos (wanted_none (guard i o ho))] at hw
      unfold wpOp
      simp only [ho]
      rw [if_pos (wanted_none (guard i o ho))]
      refine hw.imp (Oper.wp_mono fun a' w' hh => ⟨hcl', .inr ⟨t + 1, by omega, fun j hj => ?_, hh⟩⟩) (fun x => x)
      by_cases hij : i = j
      · subst hij
        simp [hls]
        omega
      · rw [getD_set_ne false hij, hl j hj]
        omega
    rcases hI with ⟨fuel, lh, hlh, heq, hta, hw⟩ | ⟨t, ht, hl, hw⟩
    · by_cases him : i < m
      · have hmem : i ∈ Region.ready .any (headOps ops m) lh := mem_ready.2 ⟨by rw [getD_both (by omega), heq i him]; exact hunf, o, by rw [head_at him]; exact ho, fun e he hb => by
          have h1 := hall e he hb
          have h2 := down i o ho e he
          rw [heq _ (by omega)]
          exact h1⟩
        cases fuel with
        | zero =>
          rw [hw.1] at hmem
          cases hmem
        | succ fuel =>
          have h1 := hw.2 i hmem
          unfold wpOp at h1 ⊢
          simp only [head_at him, ho] at h1 ⊢
          rw [if_pos (wanted_none (guard i o ho))] at h1 ⊢
          have mk : ∀ a' w', wpAny P .any (headOps ops m) (cutQ P ops Q m) fuel (lh.setIfInBounds i true) a' w' → Closed ops (listed.setIfInBounds i true) ∧
              ((∃ fuel lh, lh.size = m ∧ (∀ j, j < m → lh.getD j false = (listed.setIfInBounds i true).getD j false) ∧ (∀ j, m ≤ j → (listed.setIfInBounds i true).getD j false = false) ∧ wpAny P .any (headOps ops m) (cutQ P ops Q m) fuel lh a' w') ∨
               (∃ t, 0 < t ∧ (∀ j, j < ops.size → ((listed.setIfInBounds i true).getD j false = true ↔ j < m + t)) ∧ wpList P ops Q (ops.toList.drop (m + t)) a' w')) := fun a' w' hh =>
            ⟨hcl', .inl ⟨fuel, lh.setIfInBounds i true, by simp [hlh], fun j hj => by
              by_cases hij : i = j
              · subst hij
                simp [hls, hlh, him]
              · rw [getD_set_ne false hij, getD_set_ne false hij]
                exact heq j hj, fun j hj => by rw [getD_set_ne false (by omega)]; exact hta j hj, hh⟩⟩
          rcases h1 with h1 | ⟨h1, h2⟩
          · left
            unfold Oper.wp at h1
            rw [upon_cut] at h1
            exact Oper.wp_mono mk h1
          · exact .inr ⟨h1, h2⟩
      · have hie : i = m := by
          rcases Nat.lt_or_ge m i with h1 | h1
          · obtain ⟨e, he, hb, hon⟩ := chain i o ho h1
            have h2 := hall e he hb
            rw [hon, hta _ (by omega)] at h2
            cases h2
          · omega
        subst hie
        have hf := full listed hcl hi0
        have hnil : Region.ready .any (headOps ops i) lh = [] := by
          cases hr : Region.ready .any (headOps ops i) lh with
          | nil => rfl
          | cons x l =>
            exfalso
            have hx : x ∈ Region.ready .any (headOps ops i) lh := by rw [hr]; simp
            obtain ⟨h1, ox, hox, _⟩ := mem_ready.1 hx
            have hxs := (Array.getElem?_eq_some_iff.1 hox).1
            rw [hhs] at hxs
            rw [getD_both (by omega), heq x hxs, hf x hxs] at h1
            cases h1
        have hq : wpList P ops Q (ops.toList.drop (i + 0)) a w := by
          cases fuel with
          | zero => exact hw.2
          | succ fuel => exact hw.1 hnil
        refine tailStep 0 (fun j hj => ?_) rfl hq
        constructor
        · intro h1
          rcases Nat.lt_or_ge j i with h2 | h2
          · omega
          · rw [hta j h2] at h1
            cases h1
        · intro h1
          exact hf j (by omega)
    · have hit : i = m + t := by
        have h0 : ¬ i < m + t := fun h1 => by
          rw [(hl i his).2 h1] at hunf
          cases hunf
        rcases Nat.lt_or_ge (m + t) i with h1 | h1
        · obtain ⟨e, he, hb, hon⟩ := chain i o ho (by omega)
          have h2 := hall e he hb
          rw [hon] at h2
          have := (hl (i - 1) (by omega)).1 h2
          omega
        · omega
      exact tailStep t hl hit hw
  · rintro listed a w ⟨hcl, hI⟩ hr
    have hd := done listed hcl hr
    rcases hI with ⟨fuel, lh, hlh, heq, hta, hw⟩ | ⟨t, ht, hl, hw⟩
    · exfalso
      have h1 := hd m hlt
      rw [hta m (Nat.le_refl _)] at h1
      cases h1
    · have hle : ops.size ≤ m + t := by
        rcases Nat.lt_or_ge (m + t) ops.size with h1 | h1
        · have := (hl (m + t) h1).1 (hd _ h1)
          omega
        · exact h1
      rw [List.drop_eq_nil_of_le (by simpa using hle)] at hw
      exact hw
  · unfold leftOf
    refine Nat.le_trans (List.length_filter_le _ _) ?_
    simp
  · refine ⟨⟨by simp, fun i o hi => ?_⟩, .inl ⟨_, _, by rw [Array.size_replicate, hhs], fun j hj => ?_, fun j hj => ?_, h⟩⟩
    · rw [getD_rep] at hi
      cases hi
    · rw [getD_rep, getD_rep]
    · exact getD_rep _ _
end
end Go.Proofs.YtbkbcfimpaolmaaGreat
