/-
  Own text. The code's table and the document's side by side.
-/
import Derived.Test.YtcpnleanjclfjaaTCK
namespace Go.Proofs.Ytcpnleanjclfjaa
open Go.RowKit Go.Proofs
set_option maxRecDepth 100000
/-- Both tables, the box of an All of the fresh table, and the result's box; apart, all of them new since w0. -/
structure Two (w0 : World) (B t d bs g2 : Nat) (z : World) (x : Value) (mC : Nat) (rC : Nat → Rw) (mD : Nat) (rD : Nat → Rw) : Prop where
  c : TabC z t mC rC
  dt : TabD z B d x mD rD
  bx : SAt z bs 56 2 (brV none none)
  res : z.heap[g2]? = some (.cells #[.bool false] 4 (0, 0))
  bel : Below w0.heap.size w0 z
  lo : w0.heap.size ≤ t ∧ w0.heap.size ≤ d ∧ w0.heap.size ≤ bs ∧ w0.heap.size ≤ g2
  hi : t < B ∧ d < B ∧ bs < B ∧ g2 < B
section
variable {w0 z z' : World} {B t d bs g2 : Nat} {x x' : Value} {mC mD m' : Nat} {rC rD r' : Nat → Rw}
theorem Two.below (h : Two w0 B t d bs g2 z x mC rC mD rD) (hb : Below z.heap.size z z') : Two w0 B t d bs g2 z' x mC rC mD rD :=
  ⟨h.c.below hb, h.dt.below hb, SAt.kept h.bx hb, bheap hb h.res (heap_lt h.res), h.bel.trans (hb.mono h.bel.size), h.lo, h.hi⟩
theorem Two.td (h : Two w0 B t d bs g2 z x mC rC mD rD) : t ≠ d := fun e => by
  obtain ⟨V, hV⟩ := h.c.blk
  rw [e] at hV
  have h1 := h.dt.blk.symm.trans hV
  simp at h1
theorem Two.tb (h : Two w0 B t d bs g2 z x mC rC mD rD) : t ≠ bs := fun e => by
  obtain ⟨V, hV⟩ := h.c.blk
  rw [e] at hV
  have h1 := h.bx.symm.trans hV
  simp at h1
theorem Two.tg (h : Two w0 B t d bs g2 z x mC rC mD rD) : t ≠ g2 := fun e => by
  obtain ⟨V, hV⟩ := h.c.blk
  rw [e] at hV
  have h1 := h.res.symm.trans hV
  simp at h1
theorem Two.db (h : Two w0 B t d bs g2 z x mC rC mD rD) : d ≠ bs := fun e => by
  have h0 := h.dt.blk
  rw [e] at h0
  have h1 := h.bx.symm.trans h0
  simp at h1
theorem Two.dg (h : Two w0 B t d bs g2 z x mC rC mD rD) : d ≠ g2 := fun e => by
  have h0 := h.dt.blk
  rw [e] at h0
  have h1 := h.res.symm.trans h0
  simp at h1
theorem Two.own (h : Two w0 B t d bs g2 z x mC rC mD rD) (q : Nat) (hq : x.ownBlock = some q) : B ≤ q ∧ q < z.heap.size := h.dt.row.lt q hq
theorem Two.noD (h : Two w0 B t d bs g2 z x mC rC mD rD) : NoNd z d := fun V hV => by
  have h1 := h.dt.blk.symm.trans hV
  simp at h1
theorem Two.noQ (h : Two w0 B t d bs g2 z x mC rC mD rD) (q : Nat) (hq : x.ownBlock = some q) : NoNd z q := fun V hV => by
  rcases h.dt.row.2 with ⟨e, _⟩ | ⟨g, cap, cur, e, _, hg, _⟩
  · rw [e] at hq
    cases hq
  · rw [e] at hq
    have e2 : g = q := Option.some.inj hq
    rw [e2] at hg
    have h1 := hg.symm.trans hV
    simp at h1
/-- The code's table has gone on. -/
theorem Two.code (h : Two w0 B t d bs g2 z x mC rC mD rD) (hc : TabC z' t m' r') (ht : Touch (fun k => k = t) z z') : Two w0 B t d bs g2 z' x m' r' mD rD :=
  ⟨hc, ⟨h.dt.blk.block (ht.block d h.dt.blk.lt (fun e => h.td e.symm)), ownM_block h.dt.row (fun k hk => ht.block k (h.own k hk).2 (fun e => by have := (h.own k hk).1; have := h.hi.1; omega)), h.dt.lo, Nat.le_trans h.dt.hi ht.size⟩,
    h.bx.block (ht.block bs h.bx.lt (fun e => h.tb e.symm)), (ht.block g2 (heap_lt h.res) (fun e => h.tg e.symm)).trans h.res, h.bel.trans (tou_below ht (fun k hk => by rw [hk]; exact h.lo.1) h.bel.size), h.lo, h.hi⟩
/-- The document's table has gone on. -/
theorem Two.doc (h : Two w0 B t d bs g2 z x mC rC mD rD) (hd : TabD z' B d x' m' r') (ht : Touch (TabT d x) z z') : Two w0 B t d bs g2 z' x' mC rC m' r' := by
  have hno : ∀ k, k < B → k ≠ d → ¬ TabT d x k := fun k hk hd e => by
    rcases e with e | e
    · exact hd e
    · have := (h.own k e).1
      omega
  exact ⟨h.c.tou ht (fun k hk => by
      rcases hk with rfl | hk
      · exact ⟨fun e => h.td e.symm, h.noD⟩
      · exact ⟨fun e => by have := (h.own k hk).1; have := h.hi.1; omega, h.noQ k hk⟩), hd,
    h.bx.block (ht.block bs h.bx.lt (hno bs h.hi.2.2.1 (fun e => h.db e.symm))), (ht.block g2 (heap_lt h.res) (hno g2 h.hi.2.2.2 (fun e => h.dg e.symm))).trans h.res,
    h.bel.trans (tou_below ht (fun k hk => by
      rcases hk with rfl | hk
      · exact h.lo.2.1
      · have := (h.own k hk).1
        have := h.hi.1
        have := h.lo.1
        omega) h.bel.size), h.lo, h.hi⟩
theorem Two.ok (h : Two w0 B t d bs g2 z x mC rC mC rC) (j : Nat) (hj : j < mC) : RwOk (rC j) := (h.c.row j hj).1.ok
theorem Two.small (h : Two w0 B t d bs g2 z x mC rC mC rC) : mC < 1000 := by have := h.c.le; omega
/-- A box made in this round stands apart from both tables. -/
theorem Two.boxC {ty : TypeId} {n g : Nat} {V : Nat → Value} (h : Two w0 B t d bs g2 z x mC rC mD rD) {u u' : World} (hg : z.heap.size ≤ g) (q : SAt u g ty n V) (ht : Touch (fun k => k = t) u u') : SAt u' g ty n V :=
  q.block (ht.block g q.lt (fun e => by have := h.hi.1; have := h.dt.hi; omega))
theorem Two.boxD {ty : TypeId} {n g : Nat} {V : Nat → Value} (h : Two w0 B t d bs g2 z x mC rC mD rD) {u u' : World} (hg : z.heap.size ≤ g) (q : SAt u g ty n V) (ht : Touch (TabT d x) u u') : SAt u' g ty n V :=
  q.block (ht.block g q.lt (fun e => by
    rcases e with e | e
    · have := h.hi.2.1
      have := h.dt.hi
      omega
    · have := (h.own g e).2
      omega))
end
/-- A fresh table of the document. -/
theorem zeroD (ro : Nat → Rw) {w : World} {B d : Nat} (h : SAt w d 29 1 (fun _ => .slice none 0 0)) (hl : d < B) (hh : B ≤ w.heap.size) : TabD w B d (.slice none 0 0) 0 ro := ⟨h, ⟨rfl, .inl ⟨rfl, rfl⟩⟩, hl, hh⟩
section
variable {a : Act} {o : Oper} {w : World} {x : Operand}
theorem isTbD : IsSt 29 1 := ⟨_, Try.underlying29, rfl, by kernel_rfl⟩
theorem run_tbD0 (w : World) : (Instr.build 29 #[]).run Try.prog w = .ok (.agg (SC 1 (fun _ => .slice none 0 0))) w := by kernel_rfl
theorem exec_tbD0 (ho : o.op = .build 29 #[]) : (execOp a.eval o).run Try.prog w = .ok (.value (.agg (SC 1 (fun _ => .slice none 0 0)))) w := by
  unfold execOp
  simp only [ho]
  simp [run_tbD0]
theorem exec_lenOp (ho : o.op = .call { callee := .builtin .len, args := #[x], argTypes := #[22] }) {ad : Option Addr} {n c : Nat} (hx : a.eval x = .slice ad n c) : (execOp a.eval o).run Try.prog w = .ok (.value (.int .i64 (n : Int))) w := by
  have hr : (Builtin.len_ #[22] o.type #[.slice ad n c]).run Try.prog w = .ok (goInt n) w := by simp [go_sem]
  simp [execOp, ho, resolve, invoke, builtin, hx, hr, goInt]
end
end Go.Proofs.Ytcpnleanjclfjaa
