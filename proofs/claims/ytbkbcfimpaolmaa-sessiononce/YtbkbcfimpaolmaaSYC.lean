/-
  Own text. SessionOnce: its beginning.
-/
import Derived.Test.YtbkbcfimpaolmaaSYB
namespace Go.Proofs.Ytbkbcfimpaolmaa
open Go.RowKit Go.Proofs
set_option maxRecDepth 100000
theorem zero2s (w : World) : (zeroValue 25).run Try.prog w = .ok (.agg (SC 2 (fun _ => .pointer none))) w := by kernel_rfl
theorem zero2w (w : World) : (zeroValue 28).run Try.prog w = .ok (.agg (SC 2 (fun _ => .slice none 0 0))) w := by kernel_rfl
theorem on_start {w u5 u6 : World} {bs bw b0 b1 : Nat} (h0 : SesAt u5 b0 ses0 (fun k => k = b0)) (h1 : SesAt u5 b1 ses0 (fun k => k = b1)) (ha : SAt u5 bs 25 2 (fun e => .pointer (some ⟨if e = 0 then b0 else b1, 0, none⟩)))
    (hw : SAt u6 bw 28 2 (fun _ => .slice none 0 0)) (hb : Below u5.heap.size u5 u6) (hbw : u5.heap.size ≤ bw) (l0 : w.heap.size ≤ bs) (l1 : w.heap.size ≤ b0) (l2 : w.heap.size ≤ b1) (n0 : b0 ≠ bs) (n1 : b1 ≠ bs) (n2 : b0 ≠ b1) (hB : Below w.heap.size w u5) :
    OnSt w bs bw (fun e => if e = 0 then b0 else b1) (fun _ => False) u6 (fun _ => ses0) (fun _ => .slice none 0 0) (fun _ => 0) (fun _ _ => el0) := by
  have t0 := h0.lt b0 rfl
  have t1 := h1.lt b1 rfl
  have ta := ha.lt
  have hz := hB.size
  refine ⟨fun e k => k = if e = 0 then b0 else b1, fun e he => ?_, ha.kept hb, hw, fun e he => World.ownsRow_nil _ _ _ 5, fun e k he hk => ?_, fun e k he hk => ?_, fun e d k he hd hk hv => ?_, fun e d k he hd hed hk hk2 => ?_, fun e d k he hd hed hk => ?_, by omega, ⟨id, id⟩, ⟨l0, by omega⟩, hB.trans (hb.mono hz)⟩
  · by_cases e0 : e = 0
    · subst e0; exact h0.below hb
    · simp only [if_neg e0]; exact h1.below hb
  · by_cases e0 : e = 0
    · simp only [if_pos e0] at hk; subst hk; exact ⟨l1, n0, by omega, id⟩
    · simp only [if_neg e0] at hk; subst hk; exact ⟨l2, n1, by omega, id⟩
  · exact absurd hk (by simp [Value.ownBlock])
  · exact absurd hv (by simp [Value.ownBlock])
  · by_cases e0 : e = 0
    · by_cases d0 : d = 0
      · omega
      · simp only [if_pos e0] at hk; simp only [if_neg d0] at hk2; omega
    · by_cases d0 : d = 0
      · simp only [if_neg e0] at hk; simp only [if_pos d0] at hk2; omega
      · omega
  · exact absurd hk (by simp [Value.ownBlock])
-- laws for an operation by its text (o.op = ..): where another one stands, they fail at once
theorem wl_alO {ops : Array Oper} {rest : List Oper} {o : Oper} {ty : TypeId} {a : Act} {w : World} {Q : Exit → Act → World → Prop} {n : Nat} {V : Nat → Value} (ho : o.op = .alloc ty) (hgd : Region.wanted o (yielded ops a.tmps) = true) (hz : ∀ w, (zeroValue ty).run Try.prog w = .ok (.agg (SC n V)) w)
    (h : ∀ g w', w.heap.size ≤ g → SAt w' g ty n V → Below w.heap.size w w' → wpList Try.prog ops Q rest (a.put o.dst (.pointer (some ⟨g, 0, none⟩))) w') : wpList Try.prog ops Q (o :: rest) a w :=
  wl_act hgd (act_alloc hz ho (fun w' hb hg => h _ w' (Nat.le_refl _) hg hb))
theorem wl_bsEO {ops : Array Oper} {rest : List Oper} {o : Oper} {x : Operand} {a : Act} {w : World} {Q : Exit → Act → World → Prop} {V : Nat → Value} (ho : o.op = .buildSlice 27 1 #[(0, x)]) (hgd : Region.wanted o (yielded ops a.tmps) = true) (hx : a.eval x = .agg (SC 5 V))
    (h : ∀ g w', w.heap.size ≤ g → SAt w' g 46 5 V → Below w.heap.size w w' → wpList Try.prog ops Q rest (a.put o.dst (.slice (some ⟨g, 0, none⟩) 1 1)) w') : wpList Try.prog ops Q (o :: rest) a w := by
  have hr := run_bsE V w
  refine wl_act hgd ?_
  unfold Oper.wp execOp
  simp only [ho, List.map_toArray, List.map_cons, List.map_nil, hx, Sem.run_bind, hr, Result.andThen_ok, Sem.run_pure, Oper.upon]
  exact h _ _ (Nat.le_refl _) (heap_alloc_new w _) ((Below.refl _ _).alloc (Nat.le_refl _) _)
theorem wl_bs3O {ops : Array Oper} {rest : List Oper} {o : Oper} {x y z : Operand} {a : Act} {w : World} {Q : Exit → Act → World → Prop} {p q r : Int} (ho : o.op = .buildSlice 41 3 #[(0, x), (1, y), (2, z)]) (hgd : Region.wanted o (yielded ops a.tmps) = true) (hx : a.eval x = .int .u8 p) (hy : a.eval y = .int .u8 q) (hz : a.eval z = .int .u8 r) (hp : 0 ≤ p ∧ p < 256) (hq : 0 ≤ q ∧ q < 256) (hr : 0 ≤ r ∧ r < 256)
    (h : ∀ g w', Hid ((convert 41 9 (.slice (some ⟨g, 0, none⟩) 3 3)).run Try.prog w' = .ok (.string (mkS 3 (thr p q r))) w') → Below w.heap.size w w' → wpList Try.prog ops Q rest (a.put o.dst (.slice (some ⟨g, 0, none⟩) 3 3)) w') : wpList Try.prog ops Q (o :: rest) a w := by
  have hr' := run_bs3 p q r w
  refine wl_act hgd ?_
  unfold Oper.wp execOp
  simp only [ho, List.map_toArray, List.map_cons, List.map_nil, hx, hy, hz, Sem.run_bind, hr', Result.andThen_ok, Sem.run_pure, Oper.upon]
  refine h _ _ (Hid.mk (str_back9 _ 3 _ (thr p q r) (fun j hj => by unfold thr; split; exact hp; split; exact hq; exact hr) (fun j hj => ?_))) ((Below.refl _ _).alloc (Nat.le_refl _) _)
  rw [cell_of_row _ _ j _ _ _ (heap_alloc_new w _)]
  match j, hj with
  | 0, _ => rfl
  | 1, _ => rfl
  | 2, _ => rfl
theorem wl_cat8O {ops : Array Oper} {rest : List Oper} {o : Oper} {x y : Operand} {a : Act} {w : World} {Q : Exit → Act → World → Prop} {s t : ByteArray} (ho : o.op = .binOp .add 9 x y 9) (hw : Region.wanted o (yielded ops a.tmps) = true) (hx : a.eval x = .string s) (hy : a.eval y = .string t) (hs : s.size + t.size = 8)
    (h : ∀ T : ByteArray, T.size = 8 → wpList Try.prog ops Q rest (a.put o.dst (.string T)) w) : wpList Try.prog ops Q (o :: rest) a w :=
  wl_value hw (exec_catS ho hx hy (by omega)) (h _ (by rw [ByteArray.size_append]; exact hs))
theorem OnSt.grown {w0 w w' : World} {bs bw e : Nat} {b : Nat → Nat} {N : Nat → Prop} {σ : Nat → Ses} {v : Nat → Value} {n : Nat → Nat} {Z : Nat → Nat → El} (h : OnSt w0 bs bw b N w σ v n Z) (he : e < 2) (hg : w.grownBy w' (v e).ownBlock) : w'.cell? ⟨bw, e, none⟩ = some (v e) ∧ w'.frozen? ⟨bw, e, none⟩ = false := by
  obtain ⟨S, h⟩ := h
  have hw : SAt w' bw 28 2 v := h.way.block (hg.block bw h.way.lt (fun e1 => (h.r0 e bw he e1.symm).2.1 rfl))
  exact ⟨hw.at e he, frozen_of_row w' bw e _ _ hw⟩
theorem own_free {w : World} {B g n cap : Nat} {xs : List Value} (h : w.ownsRow B 46 5 (.slice (some ⟨g, 0, none⟩) n cap) n xs) (j : Nat) : w.frozen? ⟨g, j, none⟩ = false := by
  rcases h.2 with ⟨e, _⟩ | ⟨g', cap', cur, e, hB, hg, _⟩
  · cases e
  · injection e with e1 e2 e3
    injection e1 with e1
    injection e1 with e1
    subst e1
    exact frozen_of_row w g j _ _ hg
end Go.Proofs.Ytbkbcfimpaolmaa
