/-
  Own text. Small laws for RouteOrder and RouteHalves.
-/
import Derived.Test.YtcpnleanjclfjaaTDB
namespace Go.Proofs.Ytcpnleanjclfjaa
open Go.RowKit Go.Proofs
set_option maxRecDepth 100000
theorem enterD_20 (args : Array Value) (w : World) : (callFunc 20 args).run Try.prog w = .ok (.enter 20 args) w := by kernel_rfl
theorem enterD_15 (args : Array Value) (w : World) : (callFunc 15 args).run Try.prog w = .ok (.enter 15 args) w := by kernel_rfl
theorem enterD_23 (args : Array Value) (w : World) : (callFunc 23 args).run Try.prog w = .ok (.enter 23 args) w := by kernel_rfl
theorem whole_right (v : Bool) (b : Nat → Int) (n : Int) (w : World) (hb : Byts 16 b) (hr : rightF v b n = true) : Calls Try.prog 20 #[.agg (SC 18 (prV v b n))] w fun e w' => e = .returned (.agg (SC 18 (prV v (whB b n) n))) ∧ Below w.heap.size w w' := by
  have h := wholeC_run v b n w hb
  unfold wholeV at h
  rw [if_pos hr] at h
  exact h
theorem or_start {w w1 w2 w3 : World} {t1 t2 B : Nat} {X : Nat → Op10} {M1 M2 : Rw → Prop} (h1 : TabP w2 t1 0 M1) (h2 : TabP w3 t2 0 M2) (hB1 : Below w.heap.size w w1) (hB2 : Below w1.heap.size w1 w2) (hB3 : Below w2.heap.size w2 w3) (ht1 : w1.heap.size ≤ t1) (ht2 : w2.heap.size ≤ t2) (hB : w3.heap.size = B) : OrS w B t1 t2 w3 (.slice none 0 0) 0 X 0 M1 0 M2 := by
  have l1 := h1.lt
  have l2 := h2.lt
  have s1 := hB1.size
  have s2 := hB2.size
  have s3 := hB3.size
  exact ⟨h1.below hB3, h2, ⟨rfl, .inl ⟨rfl, rfl⟩⟩, hB1.trans ((hB2.trans (hB3.mono s2)).mono s1), ⟨by omega, by omega⟩, ⟨by omega, by omega, by omega, by omega⟩⟩
section
variable {a : Act} {o : Oper} {w : World} {x y : Operand}
theorem exec_subI (ho : o.op = .binOp .sub 3 x y 3) {m n q : Int} (hx : a.eval x = .int .i64 m) (hy : a.eval y = .int .i64 n) (h : m - n = q) (h0 : 0 ≤ q) (h1 : q ≤ 9223372036854775807) : (execOp a.eval o).run Try.prog w = .ok (.value (.int .i64 q)) w := by
  subst h
  refine exec_bin2 ho hx hy rfl ?_
  have e : IntKind.i64.wrap (m - n) = m - n := by rw [IntKind.wrap_i64]; omega
  simp [go_sem, e]
theorem exec_not {b : Bool} (ho : o.op = .unOp .not 4 x) (hx : a.eval x = .bool b) : (execOp a.eval o).run Try.prog w = .ok (.value (.bool (!b))) w := by
  unfold execOp
  simp only [ho, hx]
  simp [go_sem]
theorem exec_neErr (ho : o.op = .binOp .neq 44 x y 44) {m : Int} (hx : a.eval x = .int .i64 m) (hy : a.eval y = .int .i64 m) : (execOp a.eval o).run Try.prog w = .ok (.value (.bool false)) w := exec_bin2 ho hx hy rfl (by simp [go_sem])
end
theorem has_wh (v : Bool) (b : Nat → Int) (n : Int) (v2 : Bool) (b2 : Nat → Int) : hasF v (whB b n) n v2 b2 = hasF v b n v2 b2 := by
  rw [Bool.eq_iff_iff, has_iff, has_iff]
  refine ⟨fun ⟨h1, h2, h3⟩ => ⟨h1, h2, fun i hi => ?_⟩, fun ⟨h1, h2, h3⟩ => ⟨h1, h2, fun i hi => ?_⟩⟩
  · have := h3 i hi
    rwa [wh_bit, if_pos hi] at this
  · rw [wh_bit, if_pos hi]
    exact h3 i hi
section
variable {X : Nat → Op10} {K K' : Nat → Prop} {k j : Nat}
theorem ix_no (hk : KeptO X k) (hj : j < k) (hK : ∀ q, K q → q < k ∧ q ≠ j) (r : Rw) (hr : IxO K X r) : ¬ Eqr r ⟨(X j).v, whB (X j).b (X j).n, (X j).n, 0⟩ := fun e => by
  obtain ⟨q, h1, h2, _⟩ := hr
  obtain ⟨h3, h4⟩ := hK q h1
  exact h4 (hk.ap q j h3 hj (Eqr.trans h2 e))
theorem ix_add (hK : ∀ q, K' q ↔ K q ∨ q = j) (r : Rw) : IxO K' X r ↔ IxO K X r ∨ (Eqr ⟨(X j).v, whB (X j).b (X j).n, (X j).n, (X j).ow⟩ r ∧ (X j).ow = r.o) := by
  constructor
  · rintro ⟨q, h1, h2, h3⟩
    rcases (hK q).1 h1 with h | rfl
    · exact .inl ⟨q, h, h2, h3⟩
    · exact .inr ⟨h2, h3⟩
  · rintro (⟨q, h1, h2, h3⟩ | ⟨h2, h3⟩)
    · exact ⟨q, (hK q).2 (.inl h1), h2, h3⟩
    · exact ⟨j, (hK j).2 (.inr rfl), h2, h3⟩
theorem ix_del (hk : KeptO X k) (hj : j < k) (hK0 : ∀ q, K q → q < k) (hK : ∀ q, K' q ↔ K q ∧ q ≠ j) (r : Rw) : IxO K' X r ↔ IxO K X r ∧ ¬ Eqr r ⟨(X j).v, whB (X j).b (X j).n, (X j).n, 0⟩ := by
  constructor
  · rintro ⟨q, h1, h2, h3⟩
    have h4 := (hK q).1 h1
    exact ⟨⟨q, h4.1, h2, h3⟩, fun e => h4.2 (hk.ap q j (hK0 q h4.1) hj (Eqr.trans h2 e))⟩
  · rintro ⟨⟨q, h1, h2, h3⟩, h4⟩
    refine ⟨q, (hK q).2 ⟨h1, fun e => h4 ?_⟩, h2, h3⟩
    subst e
    exact Eqr.symm h2
theorem ix_nil (hK : ∀ q, ¬ K q) (r : Rw) : IxO K X r ↔ False := ⟨fun ⟨q, h, _⟩ => hK q h, fun h => h.elim⟩
theorem ix_congr (hK : ∀ q, K' q ↔ K q) (r : Rw) : IxO K' X r ↔ IxO K X r := ⟨fun ⟨q, h, h2⟩ => ⟨q, (hK q).1 h, h2⟩, fun ⟨q, h, h2⟩ => ⟨q, (hK q).2 h, h2⟩⟩
variable {w0 z : World} {B t1 t2 m1 m2 : Nat} {x : Value} {M1 M2 : Rw → Prop}
theorem OrS.putA (h : OrS w0 B t1 t2 z x k X m1 (IxO K X) m2 M2) (hk : KeptO X k) (hj : j < k) (hK : ∀ q, K q → q < k ∧ q ≠ j) (hK' : ∀ q, K' q ↔ K q ∨ q = j) (hm : m1 < 64) : Calls Try.prog 15 #[.pointer (some ⟨t1, 0, none⟩), .agg (SC 18 (prV (X j).v (X j).b (X j).n)), .int .i64 (X j).ow] z fun e z' => ∃ u, e = .returned u ∧ u = .int .i64 0 ∧ OrS w0 B t1 t2 z' x k X (m1 + 1) (IxO K' X) m2 M2 := by
  refine (putP h.a (X j).v (X j).b (X j).n (X j).ow (hk.byt j hj) (hk.rig j hj) hm (ix_no hk hj hK)).mono ?_
  rintro e z' ⟨rfl, h1, h2⟩
  exact ⟨_, rfl, rfl, (h.goA h1 h2).congA (ix_add hK')⟩
theorem OrS.putB (h : OrS w0 B t1 t2 z x k X m1 M1 m2 (IxO K X)) (hk : KeptO X k) (hj : j < k) (hK : ∀ q, K q → q < k ∧ q ≠ j) (hK' : ∀ q, K' q ↔ K q ∨ q = j) (hm : m2 < 64) : Calls Try.prog 15 #[.pointer (some ⟨t2, 0, none⟩), .agg (SC 18 (prV (X j).v (X j).b (X j).n)), .int .i64 (X j).ow] z fun e z' => ∃ u, e = .returned u ∧ u = .int .i64 0 ∧ OrS w0 B t1 t2 z' x k X m1 M1 (m2 + 1) (IxO K' X) := by
  refine (putP h.b (X j).v (X j).b (X j).n (X j).ow (hk.byt j hj) (hk.rig j hj) hm (ix_no hk hj hK)).mono ?_
  rintro e z' ⟨rfl, h1, h2⟩
  exact ⟨_, rfl, rfl, (h.goB h1 h2).congB (ix_add hK')⟩
theorem OrS.dropB (h : OrS w0 B t1 t2 z x k X m1 M1 m2 (IxO K X)) (hk : KeptO X k) (hj : j < k) (hKj : K j) (hK0 : ∀ q, K q → q < k) (hK' : ∀ q, K' q ↔ K q ∧ q ≠ j) : Calls Try.prog 11 #[.pointer (some ⟨t2, 0, none⟩), .agg (SC 18 (prV (X j).v (X j).b (X j).n))] z fun e z' => e = .returned (.tuple #[.int .i64 (X j).ow, .bool true]) ∧ OrS w0 B t1 t2 z' x k X m1 M1 (m2 - 1) (IxO K' X) := by
  refine (dropP h.b (X j).v (X j).b (X j).n (X j).ow (hk.byt j hj) (hk.rig j hj) ⟨j, hKj, Eqr.refl _, rfl⟩).mono ?_
  rintro e z' ⟨rfl, h1, h2⟩
  exact ⟨rfl, (h.goB h1 h2).congB (ix_del hk hj hK0 hK')⟩
end
/-- What holds in a drawn region in which n, then m, change the state. -/
def SL2 (A B C : World → Prop) (n m : Nat) (L : Nat → Bool) (w : World) : Prop := if L m = true then C w else if L n = true then B w else A w
section
variable {A B C : World → Prop} {n m i : Nat} {L : Nat → Bool} {w w' : World}
theorem sl2_same (hn : n ≠ i) (hm : m ≠ i) (h : SL2 A B C n m L w) : SL2 A B C n m (fun j => if j = i then true else L j) w := by
  unfold SL2 at h ⊢
  simp only [if_neg hn, if_neg hm]
  exact h
theorem sl2_a (h : SL2 A B C n m L w) (hn : L n = false) (hm : L m = false) : A w := by
  unfold SL2 at h
  rw [if_neg (by rw [hm]; simp), if_neg (by rw [hn]; simp)] at h
  exact h
theorem sl2_b (h : SL2 A B C n m L w) (hn : L n = true) (hm : L m = false) : B w := by
  unfold SL2 at h
  rw [if_neg (by rw [hm]; simp), if_pos hn] at h
  exact h
theorem sl2_c (h : SL2 A B C n m L w) (hm : L m = true) : C w := by
  unfold SL2 at h
  rw [if_pos hm] at h
  exact h
theorem sl2_any {P : World → Prop} (h : SL2 A B C n m L w) (ha : A w → P w) (hb : B w → P w) (hc : C w → P w) : P w := by
  unfold SL2 at h
  split at h
  · exact hc h
  · split at h
    · exact hb h
    · exact ha h
theorem sl2_start (h : A w) : SL2 A B C n m (fun _ => false) w := by
  unfold SL2
  simp only [Bool.false_eq_true, if_false]
  exact h
theorem sl2_first (hm : m ≠ n) (hl : L m = false) (h : B w') : SL2 A B C n m (fun j => if j = n then true else L j) w' := by
  unfold SL2
  simp only [if_neg hm, hl, if_true]
  exact h
theorem sl2_done (h : C w') : SL2 A B C n m (fun j => if j = m then true else L j) w' := by
  unfold SL2
  simp only [if_true]
  exact h
end
end Go.Proofs.Ytcpnleanjclfjaa
