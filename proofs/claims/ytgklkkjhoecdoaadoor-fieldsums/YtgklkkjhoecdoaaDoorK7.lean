/-
  Own text. What atLeast of the document's answer gives: is a number below 2^255 p at least? And laws for the copy and the making of slices in Rest.
-/
import Derived.Test.YtgklkkjhoecdoaaDoorK6
import Derived.Laws.CopyOwn
namespace Go.Proofs.YtgklkkjhoecdoaaDoor
open Go.RowKit Go.Proofs
set_option maxHeartbeats 1000000 in
set_option maxRecDepth 100000 in
theorem atLeast_any (B g cap : Nat) (X : List Int) (w : World) (hD : Dig w B g cap X) (hl : X.length = 16) (hd : Dgs 65536 X) (h15 : X.getD 15 0 < 32768) :
    Calls Tryd.prog 44 #[.slice (some ⟨g, 0, none⟩) 16 cap] w fun e w' => e = .returned (.bool (decide (P255 ≤ val X))) ∧ w' = w := by
  have HL := Hid.mk hl
  have HN := Hid.mk (least_no hd hl h15)
  have HY := Hid.mk (least_yes hd hl h15)
  have HDD := Hid.mk hD
  have c0 := hD.cell 0 (by omega)
  have c15 := hD.cell 15 (by omega)
  clear hl hd h15 hD
  go_enter Tryd.func44, Tryd.ntmps44
  go_wp2
  go_loopw [3] (fun i v => ∃ k : Nat, 1 ≤ k ∧ k ≤ 15 ∧ i = .int .i64 k ∧ Hid (∀ j, 1 ≤ j → j < k → X.getD j 0 = 65535) ∧ v = w) (fun i _ => 15 - (intOf i).toNat)
  case atStart => exact ⟨1, by omega, by omega, rfl, Hid.mk (fun j h1 h2 => by omega), rfl⟩
  case round =>
    obtain ⟨k, hk1, hk, rfl, HA, rfl⟩ := hrel
    by_cases hlt : k < 15
    · have cx := HDD.out.cell k (by have := HL.out; omega)
      by_cases hx : X.getD k 0 = 65535
      · have HX := Hid.mk hx
        rw [hx] at cx
        clear hx
        go_wp2
        go_roundw
        case rel => exact ⟨k + 1, by omega, by omega, by go_num, Hid.mk (fun j h1 h2 => by by_cases e : j = k; exact e ▸ HX.out; exact HA.out j h1 (by omega)), by first | trivial | rfl⟩
        case measure => simp [intOf]; omega
      · have e : decide (P255 ≤ val X) = false := by
          have := HN.out k hk1 hlt hx
          simp; omega
        generalize X.getD k 0 = x at *
        have E := Hid.mk e
        clear e
        go_wp2
        go_ret
        exact ⟨by rw [E.out]; rfl, rfl⟩
    · have hk2 : k = 15 := by omega
      subst hk2
      have hy := HY.out (fun j h1 h2 => HA.out j h1 h2)
      by_cases h1 : X.getD 15 0 = 32767
      · by_cases h2 : 65517 ≤ X.getD 0 0
        · have e : decide (P255 ≤ val X) = true := by simpa using hy.1 ⟨h1, h2⟩
          have E := Hid.mk e
          rw [h1] at c15
          clear hy e
          generalize X.getD 0 0 = x at *
          go_wp2
          go_ret
          exact ⟨by rw [E.out]; rfl, rfl⟩
        · have e : decide (P255 ≤ val X) = false := by simp only [decide_eq_false_iff_not]; exact fun h => h2 (hy.2 h).2
          have E := Hid.mk e
          rw [h1] at c15
          clear hy e
          generalize X.getD 0 0 = x at *
          go_wp2
          go_ret
          exact ⟨by rw [E.out]; rfl, rfl⟩
      · have e : decide (P255 ≤ val X) = false := by simp only [decide_eq_false_iff_not]; exact fun h => h1 (hy.2 h).1
        have E := Hid.mk e
        clear hy e
        generalize X.getD 15 0 = x at *
        go_wp2
        go_ret
        exact ⟨by rw [E.out]; rfl, rfl⟩
theorem info1 : (Tryd.prog.info? 3).map (·.size) = some 1 := by kernel_rfl
theorem mk1640 (w : World) : (Instr.makeSlice 43 (.int .i64 16) (.int .i64 40)).run Tryd.prog w = .ok (.slice (some ⟨w.heap.size, 0, none⟩) 16 40) (w.alloc (.cells (madeCells #[.int .i64 0] 40) 3)) := by kernel_rfl
/-- 'copy(y, x[:16])', y made for it. -/
theorem cp_dig {ops : Array Oper} {rest : List Oper} {o : Oper} {a : Act} {w : World} {Q : Exit → Act → World → Prop} (hgd : o.guard = none) (d s : Operand)
    (ho : o.op = .call { callee := .builtin .copy, args := #[d, s], argTypes := #[43, 43] })
    (B g cp c y : Nat) (X : List Int) (hd : a.eval d = .slice (some ⟨y, 0, none⟩) 16 40) (hs : a.eval s = .slice (some ⟨g, 0, none⟩) 16 c) (hX : Dig w B g cp X) (h16 : 16 ≤ X.length)
    (hy : w.heap[y]? = some (.cells (madeCells #[.int .i64 0] 40) 3 (0, 0)))
    (h : ∀ w', Dig w' y y 40 (X.take 16) → Only y w w' → wpList Tryd.prog ops Q rest (a.put o.dst (.int .i64 16)) w') : wpList Tryd.prog ops Q (o :: rest) a w := by
  have hcl : ((X.take 16).map (Value.int .i64)).length = 16 := by simp; omega
  have hms : (madeCells #[Value.int .i64 0] 40).size = 40 := by rw [← Array.length_toList, toList_madeCells_one]; simp
  refine wpList_copy_own hgd d s 43 43 ho 3 Tryd.underlying43 info1 y 0 16 40 ⟨g, 0, none⟩ 16 c hd hs (madeCells #[.int .i64 0] 40) 3 hy ((X.take 16).map (Value.int .i64)) (by rw [hcl]; rfl) ?_ (by rw [hcl, hms]; omega) (ints_oneCell .i64 _) ?_
  · intro j v hj
    have hj16 : j < 16 := by have := (List.getElem?_eq_some_iff.1 hj).1; omega
    have hc := hX.cell j (by omega)
    have e : ((X.take 16).map (Value.int .i64))[j]? = some (.int .i64 (X.getD j 0)) := by
      simp [hj16, List.getD, show j < X.length by omega]
    rw [e] at hj
    rw [Addr.add_lit, Nat.zero_add, hc, ← Option.some.inj hj]
  · rw [hcl]
    refine h _ ?_ (only_setRow w y _)
    have hlen : (X.take 16).length = 16 := by simp; omega
    refine ⟨by simp, .inr ⟨y, 40, _, rfl, Nat.le_refl _, setRow_heap w y _ _ 3 (0, 0) hy, by rw [hlen]; omega, by unfold maxLen; omega, ?_, ?_⟩⟩
    · rw [← Array.length_toList, List.toList_toArray]
      simp only [List.take_zero, List.nil_append, List.length_append, List.length_drop, hcl, Array.length_toList, hms]
    · rw [List.toList_toArray, List.take_zero, List.nil_append, Nat.mul_one, hlen, List.take_append_of_le_length (by rw [hcl]; omega), List.take_of_length_le (by rw [hcl]; omega)]
end Go.Proofs.YtgklkkjhoecdoaaDoor
