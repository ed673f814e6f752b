/-
  Own text. Two tables, the kept calls, and the boxes of a prefix's two halves.
-/
import Derived.Test.YtcpnleanjclfjaaTDD
namespace Go.Proofs.Ytcpnleanjclfjaa
open Go.RowKit Go.Proofs
set_option maxRecDepth 100000
structure HaS (w0 : World) (B t1 t2 : Nat) (z : World) (x : Value) (k : Nat) (X : Nat → Op10) (m1 : Nat) (M1 : Rw → Prop) (m2 : Nat) (M2 : Rw → Prop) (g h : Nat) (v : Bool) (lb hb : Nat → Int) (n : Int) : Prop where
  s : OrS w0 B t1 t2 z x k X m1 M1 m2 M2
  lo : B ≤ g ∧ SAt z g 37 18 (prV v lb n)
  hi : B ≤ h ∧ SAt z h 37 18 (prV v hb n)
section
variable {w0 z z' : World} {B t1 t2 k m1 m2 m' : Nat} {x : Value} {X : Nat → Op10} {M1 M2 M' : Rw → Prop} {g h : Nat} {v : Bool} {lb hb : Nat → Int} {n : Int} {j : Nat} {K K' : Nat → Prop}
theorem HaS.below (a : HaS w0 B t1 t2 z x k X m1 M1 m2 M2 g h v lb hb n) (b : Below z.heap.size z z') : HaS w0 B t1 t2 z' x k X m1 M1 m2 M2 g h v lb hb n := ⟨a.s.below b, ⟨a.lo.1, SAt.kept a.lo.2 b⟩, ⟨a.hi.1, SAt.kept a.hi.2 b⟩⟩
theorem HaS.tou {t : Nat} (a : HaS w0 B t1 t2 z x k X m1 M1 m2 M2 g h v lb hb n) (ht : Touch (fun q => q = t) z z') (hb' : t < B) {m1' m2' : Nat} {N1 N2 : Rw → Prop} (s : OrS w0 B t1 t2 z' x k X m1' N1 m2' N2) : HaS w0 B t1 t2 z' x k X m1' N1 m2' N2 g h v lb hb n :=
  ⟨s, ⟨a.lo.1, a.lo.2.block (ht.block g a.lo.2.lt (fun e => by have := a.lo.1; omega))⟩, ⟨a.hi.1, a.hi.2.block (ht.block h a.hi.2.lt (fun e => by have := a.hi.1; omega))⟩⟩
theorem HaS.putA (a : HaS w0 B t1 t2 z x k X m1 (IxO K X) m2 M2 g h v lb hb n) (hk : KeptO X k) (hj : j < k) (hK : ∀ q, K q → q < k ∧ q ≠ j) (hK' : ∀ q, K' q ↔ K q ∨ q = j) (hm : m1 < 64) : Calls Try.prog 15 #[.pointer (some ⟨t1, 0, none⟩), .agg (SC 18 (prV (X j).v (X j).b (X j).n)), .int .i64 (X j).ow] z fun e z' => e = .returned (.int .i64 0) ∧ HaS w0 B t1 t2 z' x k X (m1 + 1) (IxO K' X) m2 M2 g h v lb hb n := by
  refine (putP a.s.a (X j).v (X j).b (X j).n (X j).ow (hk.byt j hj) (hk.rig j hj) hm (ix_no hk hj hK)).mono ?_
  rintro e z' ⟨rfl, h1, h2⟩
  exact ⟨rfl, a.tou h2 a.s.hi.1 ((a.s.goA h1 h2).congA (ix_add hK'))⟩
theorem HaS.putB (a : HaS w0 B t1 t2 z x k X m1 M1 m2 (IxO K X) g h v lb hb n) (hk : KeptO X k) (hj : j < k) (hK : ∀ q, K q → q < k ∧ q ≠ j) (hK' : ∀ q, K' q ↔ K q ∨ q = j) (hm : m2 < 64) : Calls Try.prog 15 #[.pointer (some ⟨t2, 0, none⟩), .agg (SC 18 (prV (X j).v (X j).b (X j).n)), .int .i64 (X j).ow] z fun e z' => e = .returned (.int .i64 0) ∧ HaS w0 B t1 t2 z' x k X m1 M1 (m2 + 1) (IxO K' X) g h v lb hb n := by
  refine (putP a.s.b (X j).v (X j).b (X j).n (X j).ow (hk.byt j hj) (hk.rig j hj) hm (ix_no hk hj hK)).mono ?_
  rintro e z' ⟨rfl, h1, h2⟩
  exact ⟨rfl, a.tou h2 a.s.hi.2.1 ((a.s.goB h1 h2).congB (ix_add hK'))⟩
theorem HaS.congB (a : HaS w0 B t1 t2 z x k X m1 M1 m2 M2 g h v lb hb n) (e : ∀ r, M' r ↔ M2 r) : HaS w0 B t1 t2 z x k X m1 M1 m2 M' g h v lb hb n := ⟨a.s.congB e, a.lo, a.hi⟩
/-- Both halves go into the second table. -/
theorem HaS.putLo (a : HaS w0 B t1 t2 z x k X m1 M1 m2 (IxO (fun q => q < k ∧ q ≠ j) X) g h v lb hb n) (hk : KeptO X k) (hj : j < k) (hn : (X j).n < (wdN (X j).v : Int)) (hno : ∀ q, q < k → q ≠ j → ¬ Eqr (wrO (X q)) (loR (X j)) ∧ ¬ Eqr (wrO (X q)) (hiR (X j))) (hm : m2 < 64) : Calls Try.prog 15 #[.pointer (some ⟨t2, 0, none⟩), .agg (SC 18 (prV (X j).v (whB (X j).b (X j).n) ((X j).n + 1))), .int .i64 (X j).ow] z fun e z' => e = .returned (.int .i64 0) ∧ HaS w0 B t1 t2 z' x k X m1 M1 (m2 + 1) (fun r => IxO (fun q => q < k ∧ q ≠ j) X r ∨ (Eqr (loR (X j)) r ∧ (X j).ow = r.o)) g h v lb hb n := by
  have hr := hk.rig j hj
  have hw := lo_wh hr hn
  refine (putP a.s.b (X j).v (whB (X j).b (X j).n) ((X j).n + 1) (X j).ow (wh_b _ _) (lo_r hr hn) hm (fun r hr he => ?_)).mono ?_
  · obtain ⟨q, hq, h1, _⟩ := hr
    exact (hno q hq.1 hq.2).1 (Eqr.trans h1 (Eqr.trans he hw))
  · rintro e z' ⟨rfl, h1, h2⟩
    refine ⟨rfl, a.tou h2 a.s.hi.2.1 ((a.s.goB h1 h2).congB (fun r => ?_))⟩
    exact or_congr Iff.rfl (and_congr ⟨fun e => Eqr.trans hw e, fun e => Eqr.trans (Eqr.symm hw) e⟩ Iff.rfl)
theorem HaS.putHi (a : HaS w0 B t1 t2 z x k X m1 M1 m2 (fun r => IxO (fun q => q < k ∧ q ≠ j) X r ∨ (Eqr (loR (X j)) r ∧ (X j).ow = r.o)) g h v lb hb n) (hk : KeptO X k) (hj : j < k) (hn : (X j).n < (wdN (X j).v : Int)) (hno : ∀ q, q < k → q ≠ j → ¬ Eqr (wrO (X q)) (loR (X j)) ∧ ¬ Eqr (wrO (X q)) (hiR (X j))) (hm : m2 < 64) : Calls Try.prog 15 #[.pointer (some ⟨t2, 0, none⟩), .agg (SC 18 (prV (X j).v (longB (whB (X j).b (X j).n) (X j).n.toNat 1) ((X j).n + 1))), .int .i64 (X j).ow] z fun e z' => e = .returned (.int .i64 0) ∧ HaS w0 B t1 t2 z' x k X m1 M1 (m2 + 1) (HalfM X k j) g h v lb hb n := by
  have hr := hk.rig j hj
  have hw := hi_wh hr hn
  refine (putP a.s.b (X j).v (longB (whB (X j).b (X j).n) (X j).n.toNat 1) ((X j).n + 1) (X j).ow (long_byts (wh_b _ _) _ 1 (by omega)) (hi_r hr hn) hm (fun r hr' he => ?_)).mono ?_
  · rcases hr' with ⟨q, hq, h1, _⟩ | ⟨h1, _⟩
    · exact (hno q hq.1 hq.2).2 (Eqr.trans h1 (Eqr.trans he hw))
    · exact half_ne hr hn (Eqr.trans h1 (Eqr.trans he hw))
  · rintro e z' ⟨rfl, h1, h2⟩
    refine ⟨rfl, a.tou h2 a.s.hi.2.1 ((a.s.goB h1 h2).congB (fun r => ?_))⟩
    exact or_congr Iff.rfl (and_congr ⟨fun e => Eqr.trans hw e, fun e => Eqr.trans (Eqr.symm hw) e⟩ Iff.rfl)
end
section
variable {a : Act} {o : Oper} {w : World} {x y : Operand}
theorem exec_128 (ho : o.op = .binOp .shr 5 x y 60) {s : Nat} (hx : a.eval x = .int .u8 128) (hy : a.eval y = .int .u64 (s : Int)) (hs : s < 8) : (execOp a.eval o).run Try.prog w = .ok (.value (.int .u8 ((128 / 2 ^ s : Nat) : Int))) w := by
  refine exec_bin ho (by simp [go_sem]) hx hy ?_
  simp [go_sem]
theorem exec_cvU (ho : o.op = .convert 3 60 x) {m : Int} (hx : a.eval x = .int .i64 m) (h0 : 0 ≤ m) (h1 : m < 1000000) : (execOp a.eval o).run Try.prog w = .ok (.value (.int .u64 m)) w := by
  have e : IntKind.u64.wrap m = m := by rw [IntKind.wrap_u64]; omega
  unfold execOp
  simp only [ho, hx]
  simp [go_sem, e]
theorem exec_fad0 (ho : o.op = .fieldAddr 35 x 0) {g : Nat} (hx : a.eval x = .pointer (some ⟨g, 0, none⟩)) : (execOp a.eval o).run Try.prog w = .ok (.value (.pointer (some ⟨g, 0, none⟩))) w := by
  have h : (Instr.fieldAt 35 (.pointer (some ⟨g, 0, none⟩)) 0).run Try.prog w = .ok (.pointer (some ⟨g, 0, none⟩)) w := by simp [go_sem]
  unfold execOp
  simp only [ho, hx, Sem.run_bind, h, Result.andThen_ok, Sem.run_pure]
end
end Go.Proofs.Ytcpnleanjclfjaa
