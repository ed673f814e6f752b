/-
  Own text. Take, of pieces of packets that were cut, whatever memory is to stay; a Take in a region that leaves its order open.
-/
import Derived.Test.YthnlfjkpiohooaaJ9
import Derived.Test.YthnlfjkpiohooaaInvE
namespace Go.Proofs.Ythnlfjkpiohooaa
open Go.RowKit Go.Proofs
set_option maxRecDepth 100000
theorem TakeN_run {u : World} {N : Nat → Prop} {B g : Nat} {mv v : Value} {b b' : Bx} {begun now t e0 : Int} {cs : List Ch} {P : Pk} {o : Option Pk} (hb : BoxAt u B N g mv b begun cs) (hN : ∀ k, N k → k < u.heap.size) (hx : ExAt u v P.exts) (hv : ∀ k, exK v = some k → N k) (hl : P.exts.length < 4611686018427387904) (hbd : ∀ x ∈ P.exts, x.body.size ≤ 140737488355328) (hp : P.pay.size ≤ 140737488355328) (hbg : begun + 1 < 4611686018427387904) (ho : (takeF b now (famOf t e0 P) P).1 = o) (hb' : (takeF b now (famOf t e0 P) P).2 = b') :
    Calls Try.prog 17 #[.pointer (some ⟨g, 0, none⟩), .int .i64 now, .agg (SC 2 (tgV t e0)), .agg (SC 46 (pkV P v))] u fun e w' => ∃ Q v2 mv' bg' cs', e = .returned (.tuple #[.agg (SC 46 (pkV Q v2)), .bool o.isSome]) ∧ v2.oneCell' = true ∧ (o = some Q ∧ (ExAt w' v2 Q.exts ∧ ∀ k, exK v2 = some k → ¬ N k) ∨ o = none ∧ Q = zeroP ∧ v2 = .slice none 0 0) ∧ BoxAt w' B N g mv' b' bg' cs' ∧ bg' ≤ begun + 1 ∧ Spares N u w' := by
  refine (Take_run (now := now) (t := t) (e0 := e0) hb hx hv hN hl hbd hp hbg).mono ?_
  rintro e w' ⟨v', mv', bg', cs', rfl, hq, hb2, hbg2, hs⟩
  rw [ho] at hq ⊢
  rw [hb'] at hb2
  obtain ⟨Q, v2, hT, hc⟩ := tell_of o v'
  rcases hc with ⟨e1, e2⟩ | ⟨e1, e2, e3⟩
  · rw [hT]
    refine ⟨Q, v2, mv', bg', cs', rfl, by rw [e2]; exact (hq Q e1).1.one, .inl ⟨e1, by rw [e2]; exact hq Q e1⟩, hb2, hbg2, hs⟩
  · rw [hT]
    exact ⟨Q, v2, mv', bg', cs', rfl, by rw [e3]; rfl, .inr ⟨e1, e2, e3⟩, hb2, hbg2, hs⟩
theorem stepN_run {P : Pk} {id : Int} {R m : Nat} (h : CutOf P id R m) (hm : 2 ≤ m) (hm64 : m ≤ 64) {u : World} {N : Nat → Prop} {B g : Nat} {mv v : Value} {b : Bx} {begun now t t0 e0 : Int} {cs : List Ch} {G : Fam} {y : List Pk} {ks : List Nat} {k : Nat} (hb : TwoAt b t (famOf t0 e0 (pcs P id R 0)) G (ks.map (pcs P id R)) y) (hfg : famOf t0 e0 (pcs P id R 0) ≠ G) (hn : t ≤ now) (h3 : now < 30000) (hnd : ks.Nodup) (hks : ∀ k ∈ ks, k < m) (hk : k < m) (hnk : k ∉ ks) (hB : BoxAt u B N g mv b begun cs) (hN : ∀ k, N k → k < u.heap.size) (hx : ExAt u v P.exts) (hv : ∀ q, exK v = some q → N q) (hbg : begun + 1 < 4611686018427387904) :
    Calls Try.prog 17 #[.pointer (some ⟨g, 0, none⟩), .int .i64 now, .agg (SC 2 (tgV t0 e0)), .agg (SC 46 (pkV (pcs P id R k) v))] u fun e w' => ∃ Q v2 mv' bg' cs' b', e = .returned (.tuple #[.agg (SC 46 (pkV Q v2)), .bool (decide (ks.length + 1 = m))]) ∧ v2.oneCell' = true ∧ (ks.length + 1 = m → Q = P ∧ ExAt w' v2 P.exts ∧ ∀ k, exK v2 = some k → ¬ N k) ∧ BoxAt w' B N g mv' b' bg' cs' ∧ TwoAt b' now (famOf t0 e0 (pcs P id R 0)) G (if ks.length + 1 = m then [] else (ks ++ [k]).map (pcs P id R)) y ∧ bg' ≤ begun + 1 ∧ Spares N u w' := by
  have hst := h.step hm hm64 hb hfg hn h3 hnd hks hk hnk
  have hf : famOf t0 e0 (pcs P id R 0) = famOf t0 e0 (pcs P id R k) := by rw [fam_pcs, fam_pcs]
  have hs := h.small hk
  rw [hf] at hst ⊢
  refine (TakeN_run (t := t0) (e0 := e0) (P := pcs P id R k) hB hN (by rw [pcs_exts]; exact hx) hv hs.1 hs.2.1 hs.2.2 hbg hst.1 rfl).mono ?_
  rintro e w' ⟨Q, v2, mv', bg', cs', rfl, h1, h2, h4, h5, h6⟩
  have hd : (if ks.length + 1 = m then some P else none).isSome = decide (ks.length + 1 = m) := by split <;> rename_i hh <;> simp [hh]
  refine ⟨Q, v2, mv', bg', cs', _, by rw [hd], h1, fun hl => ?_, h4, hst.2, h5, h6⟩
  rcases h2 with ⟨e1, e2⟩ | ⟨e1, _⟩
  · rw [if_pos hl] at e1
    injection e1 with e1
    subst e1
    exact ⟨rfl, e2⟩
  · rw [if_pos hl] at e1
    cases e1
theorem againN_run {P : Pk} {id : Int} {R m : Nat} (h : CutOf P id R m) (hm : 2 ≤ m) {u : World} {N : Nat → Prop} {B g : Nat} {mv v : Value} {b : Bx} {begun now t t0 e0 : Int} {cs : List Ch} {G : Fam} {y : List Pk} {ks : List Nat} {k : Nat} (hb : TwoAt b t (famOf t0 e0 (pcs P id R 0)) G (ks.map (pcs P id R)) y) (hfg : famOf t0 e0 (pcs P id R 0) ≠ G) (hn : t ≤ now) (h3 : now < 30000) (hk : k < m) (hkk : k ∈ ks) (hB : BoxAt u B N g mv b begun cs) (hN : ∀ k, N k → k < u.heap.size) (hx : ExAt u v P.exts) (hv : ∀ q, exK v = some q → N q) (hbg : begun + 1 < 4611686018427387904) :
    Calls Try.prog 17 #[.pointer (some ⟨g, 0, none⟩), .int .i64 now, .agg (SC 2 (tgV t0 e0)), .agg (SC 46 (pkV (pcs P id R k) v))] u fun e w' => ∃ mv' bg' cs' b', e = .returned (.tuple #[.agg (SC 46 (pkV zeroP (.slice none 0 0))), .bool false]) ∧ BoxAt w' B N g mv' b' bg' cs' ∧ TwoAt b' now (famOf t0 e0 (pcs P id R 0)) G (ks.map (pcs P id R)) y ∧ bg' ≤ begun + 1 ∧ Spares N u w' := by
  have hst := h.again hm hb hfg hn h3 hk hkk
  have hf : famOf t0 e0 (pcs P id R 0) = famOf t0 e0 (pcs P id R k) := by rw [fam_pcs, fam_pcs]
  have hs := h.small hk
  rw [hf] at hst ⊢
  refine (TakeN_run (t := t0) (e0 := e0) (P := pcs P id R k) hB hN (by rw [pcs_exts]; exact hx) hv hs.1 hs.2.1 hs.2.2 hbg hst.1 rfl).mono ?_
  rintro e w' ⟨Q, v2, mv', bg', cs', rfl, h1, h2, h4, h5, h6⟩
  rcases h2 with ⟨e1, _⟩ | ⟨_, rfl, rfl⟩
  · cases e1
  · exact ⟨mv', bg', cs', _, rfl, h4, hst.2, h5, h6⟩
theorem lt_all {ds : List Nat} {n : Nat} (h : ds.all (fun d => decide (d < n)) = true) : ∀ d ∈ ds, d < n := fun d hd => of_decide_eq_true (List.all_eq_true.1 h d hd)
/-- What is known of the slots of a Take and of its answer's parts: c: the call, c + 1: the same again, c + 2: the packet, c + 3: whether there is one. -/
def tkW (c : Nat) (z : Bool) (G : Pk → Value → World → Prop) (i : Nat) (val : Value) (w : World) : Prop :=
  if i ≤ c + 1 then ∃ Q v, val = .tuple #[.agg (SC 46 (pkV Q v)), .bool z] ∧ G Q v w else if i = c + 2 then ∃ Q v, val = .agg (SC 46 (pkV Q v)) ∧ G Q v w else if i = c + 3 then val = .bool z else True
section
variable {c : Nat} {z : Bool} {G : Pk → Value → World → Prop} {Q : Pk} {v x : Value} {w w' : World}
theorem tkW_call (h : G Q v w) : tkW c z G c (.tuple #[.agg (SC 46 (pkV Q v)), .bool z]) w := by
  unfold tkW
  rw [if_pos (by omega)]
  exact ⟨Q, v, rfl, h⟩
theorem tkW_mv (h : tkW c z G c x w) : tkW c z G (c + 1) x w := by
  unfold tkW at h ⊢
  rw [if_pos (by omega)] at h ⊢
  exact h
theorem tkW_get (h : tkW c z G (c + 1) x w) : ∃ Q v, x = .tuple #[.agg (SC 46 (pkV Q v)), .bool z] ∧ G Q v w := by
  unfold tkW at h
  rw [if_pos (by omega)] at h
  exact h
theorem tkW_pk (h : G Q v w) : tkW c z G (c + 2) (.agg (SC 46 (pkV Q v))) w := by
  unfold tkW
  rw [if_neg (by omega), if_pos rfl]
  exact ⟨Q, v, rfl, h⟩
theorem tkW_pk' (h : tkW c z G (c + 2) x w) : ∃ Q v, x = .agg (SC 46 (pkV Q v)) ∧ G Q v w := by
  unfold tkW at h
  rw [if_neg (by omega), if_pos rfl] at h
  exact h
theorem tkW_ok : tkW c z G (c + 3) (.bool z) w := by
  unfold tkW
  rw [if_neg (by omega), if_neg (by omega), if_pos rfl]
theorem tkW_ok' (h : tkW c z G (c + 3) x w) : x = .bool z := by
  unfold tkW at h
  rw [if_neg (by omega), if_neg (by omega), if_pos rfl] at h
  exact h
theorem tkW_st : tkW c z G (c + 4) x w := by
  unfold tkW
  rw [if_neg (by omega), if_neg (by omega), if_neg (by omega)]
  trivial
theorem tkW_mono (hg : ∀ Q v, G Q v w → G Q v w') {i : Nat} (h : tkW c z G i x w) : tkW c z G i x w' := by
  unfold tkW at h ⊢
  split at h
  · rename_i hi
    rw [if_pos hi]
    obtain ⟨Q, v, e, hG⟩ := h
    exact ⟨Q, v, e, hg Q v hG⟩
  · rename_i hi
    rw [if_neg hi]
    split at h
    · rename_i hj
      rw [if_pos hj]
      obtain ⟨Q, v, e, hG⟩ := h
      exact ⟨Q, v, e, hg Q v hG⟩
    · rename_i hj
      rw [if_neg hj]
      exact h
end
section
variable {s : Nat} {Bp Cp : World → Prop} {c : Nat} {z : Bool} {G : Pk → Value → World → Prop} {base : List (Nat × Value)} {ds : List (Option Nat)} {wt : List (List Nat)} {o : Oper} {x : Operand}
theorem post_mv (ho : o.op = .move (.tmp ((ds.getD c none).getD 0))) (hw : wt.getD (c + 1) [] = [c]) (hs : c + 1 ≠ s) : PostD s Bp Cp (tkW c z G) base ds wt (c + 1) o := by
  refine ⟨fun _ Q a w _ kn K hK => ?_, fun e => absurd e hs⟩
  rw [hw] at kn
  exact wp_value (exec_move ho rfl) (hK _ (tkW_mv kn.1))
theorem post_pk (ho : o.op = .extract (.tmp ((ds.getD (c + 1) none).getD 0)) 0) (hw : wt.getD (c + 2) [] = [c + 1]) (hs : c + 2 ≠ s) : PostD s Bp Cp (tkW c z G) base ds wt (c + 2) o := by
  refine ⟨fun _ Q a w _ kn K hK => ?_, fun e => absurd e hs⟩
  rw [hw] at kn
  obtain ⟨P, v, e, hG⟩ := tkW_get kn.1
  exact wp_value (exec_ext ho e rfl) (hK _ (tkW_pk hG))
theorem post_ok (ho : o.op = .extract (.tmp ((ds.getD (c + 1) none).getD 0)) 1) (hw : wt.getD (c + 3) [] = [c + 1]) (hs : c + 3 ≠ s) : PostD s Bp Cp (tkW c z G) base ds wt (c + 3) o := by
  refine ⟨fun _ Q a w _ kn K hK => ?_, fun e => absurd e hs⟩
  rw [hw] at kn
  obtain ⟨P, v, e, hG⟩ := tkW_get kn.1
  exact wp_value (exec_ext ho e rfl) (hK _ tkW_ok)
theorem post_st {g : Nat} (ho : o.op = .store 27 x (.tmp ((ds.getD (c + 2) none).getD 0))) (hw : wt.getD (c + 4) [] = [c + 2]) (hb : ∀ a, Holds a base → a.eval x = .pointer (some ⟨g, 0, none⟩)) (hB : ∀ w, Bp w → ∃ V, SAt w g 27 46 V) (hG1 : ∀ Q v w, G Q v w → v.oneCell' = true) (hGs : ∀ Q v w w', G Q v w → Only g w w' → G Q v w') (hC : ∀ w w' Q v, Bp w → Only g w w' → SAt w' g 27 46 (pkV Q v) → G Q v w' → Cp w') : PostD (c + 4) Bp Cp (tkW c z G) base ds wt (c + 4) o := by
  refine ⟨fun e => absurd rfl e, fun _ Q a w hBp hh kn K hK => ?_⟩
  rw [hw] at kn
  obtain ⟨P, v, e, hG⟩ := tkW_pk' kn.1
  obtain ⟨V, hs⟩ := hB w hBp
  exact act_st7 ho isPk (pkV_one (hG1 _ _ _ hG)) (hb a hh) e hs (fun w2 hs2 ho2 => hK _ _ tkW_st (hC w w2 P v hBp ho2 hs2 (hGs _ _ _ _ hG ho2)) (fun j y _ hφ => tkW_mono (fun Q v h => hGs Q v w w2 h ho2) hφ))
theorem pre_val {u : World} {V : Nat → Value} {i : Nat} (h : ∀ (a : Act) (w : World), Below u.heap.size u w → Holds a base → KnVD V ds a (wt.getD i []) → (execOp a.eval o).run Try.prog w = .ok (.value (V i)) w) : PreD (Below u.heap.size u) V base ds wt i o :=
  fun _ a w hA hb kn _ hK => wp_value (h a w hA hb kn) (hK w hA)
end
end Go.Proofs.Ythnlfjkpiohooaa
