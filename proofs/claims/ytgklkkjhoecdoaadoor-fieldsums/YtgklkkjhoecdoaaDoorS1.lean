/-
  Own text. Slices of 32 bytes each: their cells in a row; what lent of the laws gives.
-/
import Derived.Test.YtgklkkjhoecdoaaDoorP1
import Derived.Test.YtgklkkjhoecdoaaDoorI3
import Derived.Laws.AppendOwnNone
namespace Go.Proofs.YtgklkkjhoecdoaaDoor
open Go.RowKit Go.Proofs
/-- The cells of numbers of 32 bytes, one behind the other. -/
def flat : List Int → List Value
  | [] => []
  | n :: ns => (BA n).toList ++ flat ns
theorem flat_len (ns : List Int) : (flat ns).length = ns.length * 32 := by
  induction ns with
  | nil => rfl
  | cons n ns ih => simp only [flat, List.length_append, Array.length_toList, BA_size, ih, List.length_cons]; omega
theorem flat_append (ns ms : List Int) : flat (ns ++ ms) = flat ns ++ flat ms := by
  induction ns with
  | nil => rfl
  | cons n ns ih => simp only [List.cons_append, flat, ih, List.append_assoc]
theorem flat_get (ns : List Int) (k j : Nat) (hk : k < ns.length) (hj : j < 32) : (flat ns)[k * 32 + j]? = (BA (ns.getD k 0)).toList[j]? := by
  induction ns generalizing k with
  | nil => simp at hk
  | cons n ns ih =>
    cases k with
    | zero => simp only [flat, Nat.zero_mul, Nat.zero_add, List.getD_cons_zero]; rw [List.getElem?_append_left (by rw [Array.length_toList, BA_size]; omega)]
    | succ k =>
      simp only [flat, List.getD_cons_succ]
      rw [List.getElem?_append_right (by rw [Array.length_toList, BA_size]; omega), Array.length_toList, BA_size, show (k + 1) * 32 + j - 32 = k * 32 + j by omega]
      exact ih k (by simpa using hk)
theorem flat_one (ns : List Int) : ∀ u ∈ flat ns, u.oneCell' = true := by
  induction ns with
  | nil => intro u hu; simp [flat] at hu
  | cons n ns ih =>
    intro u hu
    rcases List.mem_append.1 hu with h | h
    · have := BA_one n
      rw [Array.all_eq_true_iff_forall_mem] at this
      exact this u (by simpa using h)
    · exact ih u h
theorem rows_of_flat {w : World} {b off : Nat} {ns : List Int} (h : ∀ j u, (flat ns)[j]? = some u → w.cell? ⟨b, off + j, none⟩ = some u) : RowsAt w b off ns :=
  fun k hk j v hv => by
    have hj : j < 32 := by have := (List.getElem?_eq_some_iff.1 hv).1; rwa [Array.length_toList, BA_size] at this
    rw [Nat.add_assoc]
    exact h _ _ (by rw [flat_get ns k j hk hj]; exact hv)
theorem flat_of_rows {w : World} {b off : Nat} {ns : List Int} (h : RowsAt w b off ns) : ∀ j u, (flat ns)[j]? = some u → w.cell? ((⟨b, off, none⟩ : Addr).add j) = some u := by
  intro j u hu
  have hj := (List.getElem?_eq_some_iff.1 hu).1
  rw [flat_len] at hj
  have hk : j / 32 < ns.length := by omega
  have e : j / 32 * 32 + j % 32 = j := by omega
  have hg := flat_get ns (j / 32) (j % 32) hk (by omega)
  rw [e, hu] at hg
  have := h (j / 32) hk (j % 32) u hg.symm
  rw [Addr.add_mid, show off + j = off + j / 32 * 32 + j % 32 by omega]
  exact this
/-- The slice v holds the numbers ns. -/
def View (w : World) (v : Value) (ns : List Int) : Prop :=
  (ns = [] ∧ ∃ ao cap, v = .slice ao 0 cap ∧ (ao = none → cap = 0)) ∨
  (0 < ns.length ∧ ∃ b off cap, v = .slice (some ⟨b, off, none⟩) ns.length cap ∧ RowsAt w b off ns ∧ b < w.heap.size ∧ ns.length ≤ cap)
theorem View.below {w w' : World} {v : Value} {ns : List Int} (h : View w v ns) (hb : Below w.heap.size w w') : View w' v ns := by
  rcases h with h | ⟨h0, b, off, cap, rfl, hr, hl, hc⟩
  · exact .inl h
  · exact .inr ⟨h0, b, off, cap, rfl, rows_below hr hb hl, Nat.lt_of_lt_of_le hl hb.size, hc⟩
theorem info24 : (Tryd.prog.info? 24).map (fun i => (i.zero, i.size, i.bytes)) = some (some (.agg (BA 0)), 32, 32) := by kernel_rfl
theorem run_bs0 (w : World) : (Instr.buildSlice 22 0 #[]).run Tryd.prog w = .ok (.slice (some ⟨w.heap.size, 0, none⟩) 0 0) (w.alloc (.cells #[] 24)) := by kernel_rfl
theorem build7 (w : World) : (Instr.build 24 #[(0, .int .u8 7)]).run Tryd.prog w = .ok (.agg (BA 7)) w := by kernel_rfl
theorem build8 (w : World) : (Instr.build 24 #[(0, .int .u8 8)]).run Tryd.prog w = .ok (.agg (BA 8)) w := by kernel_rfl
/-- The slice at the head of block g owns the numbers ns. -/
def Own (w : World) (B g cap : Nat) (ns : List Int) : Prop := w.ownsRow B 24 32 (.slice (some ⟨g, 0, none⟩) ns.length cap) ns.length (flat ns)
theorem Own.raw {w : World} {B g cap : Nat} {ns : List Int} (h : Own w B g cap ns) : B ≤ g ∧ ns.length ≤ cap ∧ g < w.heap.size := by
  rcases h.2 with ⟨h', _⟩ | ⟨g', cap', cur, h', hb, hg, hn, _⟩
  · simp at h'
  · simp only [Value.slice.injEq, Option.some.injEq, Addr.mk.injEq, and_true, true_and] at h'
    obtain ⟨rfl, rfl⟩ := h'
    exact ⟨hb, hn, heap_lt hg⟩
theorem Own.rows {w : World} {B g cap : Nat} {ns : List Int} (h : Own w B g cap ns) : RowsAt w g 0 ns :=
  rows_of_flat (fun j u hu => by
    have hj := (List.getElem?_eq_some_iff.1 hu).1
    rw [flat_len] at hj
    rw [Nat.zero_add, World.ownsRow.cellAt h j hj]; exact hu)
/-- 'append(x, ms...)'. -/
theorem ap_own {ops : Array Oper} {rest : List Oper} {o : Oper} {a : Act} {w : World} {Q : Exit → Act → World → Prop} (hgd : o.guard = none) (s x : Operand)
    (ho : o.op = .call { callee := .builtin .append, args := #[s, x], argTypes := #[22, 22] })
    {B g cap : Nat} {ns ms : List Int} (hs : a.eval s = .slice (some ⟨g, 0, none⟩) ns.length cap) (hD : Own w B g cap ns) (v : Value) (hx : a.eval x = v) (hv : View w v ms)
    (hl : (ns.length + ms.length) * 32 ≤ 140737488355328) (hB : B ≤ w.heap.size)
    (h : ∀ g' cap' w', Own w' B g' cap' (ns ++ ms) → Below B w w' → wpList Tryd.prog ops Q rest (a.put o.dst (.slice (some ⟨g', 0, none⟩) (ns.length + ms.length) cap')) w') : wpList Tryd.prog ops Q (o :: rest) a w := by
  obtain ⟨i0, hi, hz0, hz1, hz2⟩ := info_parts info24
  have fin : ∀ v' w1, w1.ownsRow B 24 32 v' (ns.length + ms.length) (flat ns ++ flat ms) → w.grownBy w1 (Value.ownBlock (.slice (some ⟨g, 0, none⟩) ns.length cap)) → v' ≠ .slice none 0 0 → wpList Tryd.prog ops Q rest (a.put o.dst v') w1 := by
    intro v' w1 hown hgrow hne
    have hbl := hD.raw.1
    rcases hown.2 with ⟨e, _⟩ | ⟨g', cap', cur, rfl, hr⟩
    · exact absurd e hne
    · exact h g' cap' w1 (by unfold Own; rw [List.length_append, flat_append]; exact hown) (Below.grow hgrow hB (fun k hk => by simp [Value.ownBlock] at hk; omega))
  have hml : ns.length + ms.length ≤ maxLen := by unfold maxLen; omega
  have go : ∀ ad c, v = .slice (some ad) ms.length c → (∀ j u, (flat ms)[j]? = some u → w.cell? (ad.add j) = some u) → wpList Tryd.prog ops Q (o :: rest) a w := by
    intro ad c hvv hcells
    refine wpList_append_own w hgd s x 22 ho B 24 i0 (.agg (BA 0)) 32 32 Tryd.underlying22 hi hz0 hz1 hz2 (BA_size 0) (by decide) _ ns.length _ hs hD ad ms.length c (flat ms) (hx.trans hvv) (flat_len ms) hcells (flat_one ms) hml hl hB ?_
    intro v' w1 hown hgrow hnil
    exact fin v' w1 hown hgrow (fun e => by have := (hnil.1 e).1; simp at this)
  rcases hv with ⟨rfl, ao, c, hvv, hn⟩ | ⟨_, b, off, c, hvv, hr, _, _⟩
  · cases ao with
    | some ad => exact go ad c hvv (fun j u hu => by simp [flat] at hu)
    | none =>
      obtain rfl := hn rfl
      refine wpList_append_own_none hgd s x 22 ho B 24 i0 32 Tryd.underlying22 hi _ ns.length _ hs hD (hx.trans hvv) ?_
      exact h g cap w (by rw [List.append_nil]; exact hD) (Below.refl _ _)
  · exact go ⟨b, off, none⟩ c hvv (flat_of_rows hr)
theorem own_empty (w : World) : Own (w.alloc (.cells #[] 24)) w.heap.size w.heap.size 0 [] :=
  World.ownsRow_lit (base := w.heap.size) (e := 24) (size := 32) w #[] 0 (Nat.le_refl _) (by unfold maxLen; omega) rfl
theorem act_bs0 {o : Oper} {a : Act} {w : World} {K : Act → World → Prop} {Q : Exit → Act → World → Prop} (ho : o.op = .buildSlice 22 0 #[])
    (h : ∀ v, Own v w.heap.size w.heap.size 0 [] → Below w.heap.size w v → K (a.put o.dst (.slice (some ⟨w.heap.size, 0, none⟩) 0 0)) v) : o.wp Tryd.prog a w K Q := by
  have hr := run_bs0 w
  unfold Oper.wp execOp
  simp only [ho, List.map_toArray, List.map_nil, Sem.run_bind, hr, Result.andThen_ok, Sem.run_pure, Oper.upon]
  exact h _ (own_empty w) ((Below.refl _ _).alloc (Nat.le_refl _) _)
theorem Own.below {w w' : World} {B C g cap : Nat} {ns : List Int} (h : Own w B g cap ns) (hb : Below C w w') (hC : g < C) : Own w' B g cap ns := by
  refine ⟨h.1, ?_⟩
  rcases h.2 with hn | ⟨g', cap', cur, h', hbb, hg, rest⟩
  · exact .inl hn
  · refine .inr ⟨g', cap', cur, h', hbb, ?_, rest⟩
    simp only [Value.slice.injEq, Option.some.injEq, Addr.mk.injEq, and_true, true_and] at h'
    obtain ⟨rfl, rfl⟩ := h'
    exact (hb.block g hC).trans hg
theorem view_two {w : World} {b : Nat} {x y : Int} (hr : RowsAt w b 0 [x, y]) (hb : b < w.heap.size) : View w (.slice (some ⟨b, 0, none⟩) 2 2) [x, y] :=
  .inr ⟨by simp, b, 0, 2, rfl, hr, hb, by simp⟩
set_option maxHeartbeats 1000000 in
set_option maxRecDepth 100000 in
theorem lent_any (v : Value) (ns : List Int) (w : World) (hv : View w v ns) (hl : ns.length * 32 ≤ 140737488351232) :
    Calls Tryd.prog 9 #[v] w fun e w' => ∃ g cap, e = .returned (.slice (some ⟨g, 0, none⟩) ns.length cap) ∧ ns.length + 2 ≤ cap ∧ RowsAt w' g 0 (ns ++ [7, 8]) ∧ g < w'.heap.size ∧ Below w.heap.size w w' := by
  have HV := Hid.mk hv
  have hlen : ∃ ao c, v = .slice ao ns.length c := by
    rcases hv with ⟨rfl, ao, c, h, _⟩ | ⟨_, b, off, c, h, _⟩
    · exact ⟨ao, c, h⟩
    · exact ⟨_, c, h⟩
  obtain ⟨ao, c, rfl⟩ := hlen
  clear hv
  go_enter Tryd.func9, Tryd.ntmps9
  go_wp2_with (first | (refine wl_act rfl (act_bs0 rfl ?_); intro v1 o1 b1) | (at_builtin; refine ap_own (ns := []) rfl (.tmp 4) (.tmp 5) rfl rfl o1 _ rfl (HV.out.below b1) (by simp; omega) b1.size ?_; intro g2 c2 v2 o2 b2; have o2 : Own v2 w.heap.size g2 c2 ns := o2; have hB2 := Below.trans b1 b2; clear o1 b1 b2; simp only [List.length_nil, Nat.zero_add]) | (refine wl_value rfl (exec_build 0 7 rfl 7 (build7 _)) ?_) | (refine wl_value rfl (exec_build 0 8 rfl 8 (build8 _)) ?_) | (refine wl_act rfl (act_bs2 _ _ rfl 7 8 rfl rfl ?_); intro v3 r3 s3 b3; have o3 := o2.below b3 o2.raw.2.2; have hB3 := Below.trans hB2 (b3.mono hB2.size); clear o2 hB2 b3) | (at_builtin; refine ap_own (ns := ns) (ms := [7, 8]) rfl (.tmp 6) (.tmp 9) rfl rfl o3 _ rfl (view_two r3 s3) (by simp; omega) hB3.size ?_; intro g4 c4 v4 o4 b4; have hc4 : ns.length + 2 ≤ c4 := (by have := o4.raw.2.1; simpa using this); have hB4 := Below.trans hB3 b4; clear o3 hB3 b4))
  go_ret
  exact ⟨g4, c4, rfl, hc4, o4.rows, o4.raw.2.2, hB4⟩
end Go.Proofs.YtgklkkjhoecdoaaDoor
