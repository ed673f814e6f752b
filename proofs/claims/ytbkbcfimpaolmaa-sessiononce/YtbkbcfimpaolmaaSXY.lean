/-
  Own text. SessionOnce: boxes on the way, in rows of five cells; two sessions side by side.
-/
import Derived.Test.YtbkbcfimpaolmaaSXW
import Derived.Test.YtbkbcfimpaolmaaSXU
namespace Go.Proofs.Ytbkbcfimpaolmaa
open Go.RowKit Go.Proofs
set_option maxRecDepth 100000
/-- A box on the way. -/
structure El where
  text : ByteArray
  box : ByteArray
  idx : Int
  ctr : Int
  done : Bool
def elV (y : El) (j : Nat) : Value := if j < 1 then .string y.text else if j < 2 then .string y.box else if j < 3 then .int .u32 y.idx else if j < 4 then .int .u64 y.ctr else .bool y.done
theorem elV_one (y : El) (j : Nat) : (elV y j).oneCell' = true := by unfold elV; (repeat' split) <;> rfl
/-- The cells of a row of boxes. -/
def elX (Z : Nat → El) : Nat → List Value
  | 0 => []
  | n + 1 => elX Z n ++ (SC 5 (elV (Z n))).toList
theorem elX_len (Z : Nat → El) : ∀ n, (elX Z n).length = n * 5
  | 0 => rfl
  | n + 1 => by unfold elX; rw [List.length_append, elX_len Z n, Array.length_toList, SC_size]; omega
theorem elX_at (Z : Nat → El) : ∀ (n j f : Nat), j < n → f < 5 → (elX Z n)[5 * j + f]? = some (elV (Z j) f)
  | 0, _, _, h, _ => by omega
  | n + 1, j, f, h, hf => by
    unfold elX
    by_cases e : j < n
    · rw [List.getElem?_append_left (by rw [elX_len]; omega)]
      exact elX_at Z n j f e hf
    · obtain rfl : j = n := by omega
      rw [List.getElem?_append_right (by rw [elX_len]; omega), elX_len, show 5 * j + f - j * 5 = f by omega, Array.getElem?_toList, SC_get 5 _ f hf]
theorem elX_congr {Z Z' : Nat → El} : ∀ n, (∀ j, j < n → Z j = Z' j) → elX Z n = elX Z' n
  | 0, _ => rfl
  | n + 1, h => by unfold elX; rw [elX_congr n (fun j hj => h j (by omega)), h n (by omega)]
theorem elX_more (Z : Nat → El) (n : Nat) (y : El) : elX (setG Z n y) (n + 1) = elX Z n ++ (SC 5 (elV y)).toList := by
  have e1 : elX (setG Z n y) n = elX Z n := elX_congr n (fun j hj => by unfold setG; rw [if_neg (by omega)])
  have e2 : setG Z n y n = y := by unfold setG; rw [if_pos rfl]
  show elX (setG Z n y) n ++ (SC 5 (elV (setG Z n y n))).toList = _
  rw [e1, e2]
def elDone (y : El) (d : Bool) : El := { y with done := d }
theorem elX_done (Z : Nat → El) (n k : Nat) (hk : k < n) (d : Bool) : (elX Z n).set (5 * k + 4) (.bool d) = elX (setG Z k (elDone (Z k) d)) n := by
  apply List.ext_getElem?
  intro i
  by_cases hi : i < n * 5
  · obtain ⟨j, f, rfl, hj, hf⟩ : ∃ j f, i = 5 * j + f ∧ j < n ∧ f < 5 := ⟨i / 5, i % 5, by omega, by omega, by omega⟩
    rw [elX_at _ n j f hj hf, List.getElem?_set]
    by_cases e : 5 * k + 4 = 5 * j + f
    · obtain rfl : k = j := by omega
      obtain rfl : f = 4 := by omega
      rw [if_pos e, if_pos (by rw [elX_len]; omega)]
      unfold setG
      rw [if_pos rfl]
      rfl
    · rw [if_neg e, elX_at _ n j f hj hf]
      by_cases ej : j = k
      · subst ej
        unfold setG
        rw [if_pos rfl]
        unfold elV elDone
        have : f < 4 := by omega
        congr 1
        (repeat' split) <;> first | rfl | omega
      · unfold setG
        rw [if_neg ej]
  · rw [List.getElem?_eq_none (by rw [List.length_set, elX_len]; omega), List.getElem?_eq_none (by rw [elX_len]; omega)]
theorem isEl : IsSt 46 5 := ⟨_, Try.underlying46, rfl, by kernel_rfl⟩
def el0 : El := ⟨ByteArray.empty, ByteArray.empty, 0, 0, false⟩
theorem infoEl : (Try.prog.info? 46).map (fun i => (i.zero, i.size, i.bytes)) = some (some (.agg (SC 5 (elV el0))), 5, 56) := by kernel_rfl
theorem zeroEl (w : World) : (zeroValue 46).run Try.prog w = .ok (.agg (SC 5 (elV el0))) w := by kernel_rfl
theorem ownM_base {w : World} {B : Nat} {e : TypeId} {m : Nat} {v : Value} {n : Nat} {xs : List Value} (h : w.ownsRow B e m v n xs) (q : Nat) (hq : v.ownBlock = some q) : B ≤ q := (h.lt q hq).1
theorem ownM_mono {w : World} {B C : Nat} {e : TypeId} {m : Nat} {v : Value} {n : Nat} {xs : List Value} (h : w.ownsRow B e m v n xs) (hC : C ≤ B) : w.ownsRow C e m v n xs := by
  refine ⟨h.1, ?_⟩
  rcases h.2 with hn | ⟨g, cap, cur, hv, hB, rest⟩
  · exact .inl hn
  · exact .inr ⟨g, cap, cur, hv, Nat.le_trans hC hB, rest⟩
theorem ownM_block {w w' : World} {B : Nat} {e : TypeId} {m : Nat} {v : Value} {n : Nat} {xs : List Value} (h : w.ownsRow B e m v n xs) (hb : ∀ k, v.ownBlock = some k → w'.heap[k]? = w.heap[k]?) : w'.ownsRow B e m v n xs := by
  refine ⟨h.1, ?_⟩
  rcases h.2 with hn | ⟨g, cap, cur, rfl, hB, hg, rest⟩
  · exact .inl hn
  · exact .inr ⟨g, cap, cur, rfl, hB, by rw [hb g rfl]; exact hg, rest⟩
theorem ownM_shape {w : World} {B : Nat} {e : TypeId} {m : Nat} {v : Value} {n : Nat} {xs : List Value} (h : w.ownsRow B e m v n xs) : ∃ p cap, v = .slice p n cap ∧ (0 < n → ∃ g, p = some ⟨g, 0, none⟩) := by
  rcases h.2 with ⟨rfl, rfl⟩ | ⟨g, cap, cur, rfl, hB, rest⟩
  · exact ⟨none, 0, rfl, fun h => by omega⟩
  · exact ⟨_, cap, rfl, fun _ => ⟨g, rfl⟩⟩
theorem ap_el {ops : Array Oper} {rest : List Oper} {d : Option Tmp} {s x : Operand} {ty : TypeId} {ps : String} {af : Array Edge} {a : Act} {w : World} {Q : Exit → Act → World → Prop}
    {B n b : Nat} {Z : Nat → El} {v : Value} {y : El} (hs : a.eval s = v) (hx : a.eval x = .slice (some ⟨b, 0, none⟩) 1 1) (hD : w.ownsRow B 46 5 v n (elX Z n)) (hg : SAt w b 46 5 (elV y)) (hl : n < 1000) (hB : B ≤ w.heap.size)
    (h : ∀ v' w', w'.ownsRow B 46 5 v' (n + 1) (elX (setG Z n y) (n + 1)) → w.grownBy w' v.ownBlock → (∀ q, v'.ownBlock = some q → v.ownBlock = some q ∨ w.heap.size ≤ q) → wpList Try.prog ops Q rest (a.put d v') w') :
    wpList Try.prog ops Q ({ dst := d, op := .call { callee := .builtin .append, args := #[s, x], argTypes := #[27, 27] }, type := ty, pos := ps, after := af, guard := none } :: rest) a w := by
  obtain ⟨i0, hi, hz0, hz1, hz2⟩ := info_parts infoEl
  have hz : (Value.agg (SC 5 (elV el0))).cells.size = 5 := by show (SC 5 (elV el0)).size = 5; rw [SC_size]
  have hln : (SC 5 (elV y)).toList.length = 1 * 5 := by rw [Array.length_toList, SC_size]
  have hc' : ∀ j u, (SC 5 (elV y)).toList[j]? = some u → w.cell? ((⟨b, 0, none⟩ : Addr).add j) = some u := fun j u hj => by
    have hj2 : j < 5 := by have := (List.getElem?_eq_some_iff.1 hj).1; rwa [Array.length_toList, SC_size] at this
    rw [Addr.add_lit, Nat.zero_add, hg.at j hj2, ← SC_get 5 _ j hj2, ← Array.getElem?_toList, hj]
  have h1 : ∀ u ∈ (SC 5 (elV y)).toList, u.oneCell' = true := fun u hu => (Array.all_eq_true_iff_forall_mem.1 (SC_one (n := 5) (elV_one y))) u (by simpa using hu)
  have hM : n + 1 ≤ maxLen := by unfold maxLen; omega
  have hY : (n + 1) * 56 ≤ 140737488355328 := by omega
  rcases hD.2 with ⟨rfl, rfl⟩ | ⟨g, cap, cur, rfl, hb, hgg, hcap, hm, hsz, htk⟩
  · refine wpList_append_own w rfl s x 27 rfl w.heap.size 46 i0 _ 5 56 Try.underlying27 hi hz0 hz1 hz2 hz (by decide) _ 0 [] hs (World.ownsRow_nil w _ 46 5) ⟨b, 0, none⟩ 1 1 _ hx hln hc' h1 hM hY (Nat.le_refl _) ?_
    intro v' w1 hown hgrow _
    exact h v' w1 (by rw [elX_more]; exact ownM_mono hown hB) hgrow (fun q hq => .inr (ownM_base hown q hq))
  · by_cases hroom : n + 1 ≤ cap
    · refine wpList_plain rfl fun K hK => ?_
      obtain ⟨v', w', hrun, q1, q2, _⟩ := run_append_own (P := Try.prog) w B 27 ty 46 i0 _ 5 56 Try.underlying27 hi hz0 hz1 hz2 hz (by decide) _ n _ hD ⟨b, 0, none⟩ 1 1 _ hln hc' h1 hM hY hB
      have h3 := run_append_room (P := Try.prog) w 27 ty 46 i0 Try.underlying27 hi g n cap cur hgg ⟨b, 0, none⟩ 1 1 (SC 5 (elV y)).toList (by rw [hln, hz1]) hc' h1 hroom (by rw [hln, hz1, hsz]; omega)
      have h4 := hrun.symm.trans h3
      injection h4 with e1 e2
      unfold Oper.wp
      simp [execOp, resolve, invoke, builtin, hs, hx, hrun, Result.andThen]
      rw [← elX_more] at q1
      refine hK _ _ (h v' w' q1 q2 (fun q hq => .inl ?_))
      rw [e1] at hq
      exact hq
    · refine wpList_append_grows w rfl s x 27 rfl 46 i0 _ 5 56 Try.underlying27 hi hz0 hz1 hz2 hz (by decide) (some ⟨g, 0, none⟩) n cap (elX Z n) hs (fun h => by cases h) (by rw [elX_len]) ?_ ⟨b, 0, none⟩ 1 1 _ hx hln hc' h1 (by omega) hM hY ?_
      · intro bb hb2 j u hj
        simp only [Option.some.injEq] at hb2
        subst hb2
        exact World.ownsRow.cells hD (g := g) rfl j u hj
      · intro v' w1 hown hgrow
        rw [← elX_more] at hown
        exact h v' w1 (ownM_mono hown hB) (grown_any hgrow) (fun q hq => .inr (ownM_base hown q hq))
/-- A box of a row is marked. -/
theorem own_done {w : World} {B g n cap k : Nat} {Z : Nat → El} (h : w.ownsRow B 46 5 (.slice (some ⟨g, 0, none⟩) n cap) n (elX Z n)) (hk : k < n) (d : Bool) : (w.setCell ⟨g, 5 * k + 4, none⟩ (.bool d)).ownsRow B 46 5 (.slice (some ⟨g, 0, none⟩) n cap) n (elX (setG Z k (elDone (Z k) d)) n) := by
  refine ⟨by rw [elX_len], ?_⟩
  rcases h.2 with ⟨e, _⟩ | ⟨g', cap', cur, e, hB, hg, hcap, hm, hsz, htk⟩
  · cases e
  · injection e with e1 e2 e3
    injection e1 with e1
    injection e1 with e1
    subst e1
    subst e3
    refine .inr ⟨g, cap, cur.setIfInBounds (5 * k + 4) (.bool d), rfl, hB, heap_setCell_same w g _ _ _ _ hg, hcap, hm, by rw [Array.size_setIfInBounds]; exact hsz, ?_⟩
    rw [Array.toList_setIfInBounds, List.take_set, htk, elX_done Z n k hk d]
/-- The cells of a box in a row. -/
theorem own_el {w : World} {B g n cap k : Nat} {Z : Nat → El} (h : w.ownsRow B 46 5 (.slice (some ⟨g, 0, none⟩) n cap) n (elX Z n)) (hk : k < n) : ∀ f, f < 5 → w.cell? ⟨g, 5 * k + f, none⟩ = some (elV (Z k) f) := fun f hf => by
  have := h.cells (g := g) rfl (5 * k + f) _ (elX_at Z n k f hk hf)
  rwa [Addr.add_lit, Nat.zero_add] at this
end Go.Proofs.Ytbkbcfimpaolmaa
