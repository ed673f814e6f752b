/-
  Own text. Package noise: Begin and Accept, by their steps.
-/
import Derived.Test.YthghcjepdhkfdaaGreatDoorJM8
import Derived.Test.YthghcjepdhkfdaaGreatDoorJM3
import Derived.Test.YthghcjepdhkfdaaGreatDoorJM6
namespace Go.Proofs.YthghcjepdhkfdaaGreatDoor
open Go.RowKit Go.Proofs
set_option maxRecDepth 100000
theorem touch_tr {T : Nat → Prop} {u v w : World} (h : Touch T u v) (k : Touch T v w) : Touch T u w := ⟨k.os.trans h.os, k.tape.trans h.tape, k.output.trans h.output, Nat.le_trans h.size k.size, fun q hq hn => (k.block q (by have := h.size; omega) hn).trans (h.block q hq hn)⟩
theorem heap_at_alloc (w : World) (o : Obj) (n : Nat) (h : w.heap.size = n) : (w.alloc o).heap[n]? = some o := by
 subst h
 exact heap_alloc_new w o
theorem heap_keep_alloc {w : World} (o : Obj) {k : Nat} {x : Obj} (h : w.heap[k]? = some x) : (w.alloc o).heap[k]? = some x := (Below.heap_alloc _ _ _ (heap_lt h)).trans h
def CAt (w : World) (b : Nat) (ty : TypeId) (v : Value) : Prop := w.heap[b]? = some (.cells #[v] ty (0, 0))
section
variable {w w' : World} {b : Nat} {ty : TypeId} {v : Value}
theorem CAt.lt (h : CAt w b ty v) : b < w.heap.size := heap_lt h
theorem CAt.block (h : CAt w b ty v) (e : w'.heap[b]? = w.heap[b]?) : CAt w' b ty v := e.trans h
theorem CAt.kept (h : CAt w b ty v) (hb : Below w.heap.size w w') : CAt w' b ty v := h.block (hb.block b h.lt)
theorem CAt.only {g : Nat} (h : CAt w b ty v) (o : Only g w w') (hg : b ≠ g) : CAt w' b ty v := h.block (o.block b hg)
theorem CAt.at (h : CAt w b ty v) : w.cell? ⟨b, 0, none⟩ = some v := cell_of_row w b 0 _ _ _ h
theorem CAt.free (h : CAt w b ty v) : w.frozen? ⟨b, 0, none⟩ = false := frozen_of_row w b 0 _ _ h
theorem CAt.set (h : CAt w b ty v) (x : Value) : CAt (w.setCell ⟨b, 0, none⟩ x) b ty x := by
 have h2 := heap_setCell_same w b 0 _ ty x h
 unfold CAt
 simpa using h2
end
theorem res_sat {fn : Func} {p q r : Tmp} {ty ty' : TypeId} (h : fn.results = #[.cell p ty, .cell q ty', .tmp r]) {tmps : Array Value} {w : World} {g g' n n' : Nat} {k' : IntKind} {V : Nat → Value} {s' : Nat → Int} {x : Value} (hA : IsSt ty n) (hA' : IsArr ty' n') (hg : SAt w g ty n V) (hg' : ArrAt w g' k' ty' n' s') (hp : tmps.getD p undef = .pointer (some ⟨g, 0, none⟩)) (hq : tmps.getD q undef = .pointer (some ⟨g', 0, none⟩)) (hr : tmps.getD r undef = x) :
  (results fn tmps).run Tryz.prog w = .ok (.tuple #[.agg (SC n V), .agg (WA k' n' s'), x]) w := by
 obtain ⟨d, h1, h2, h3⟩ := hA
 obtain ⟨m', e', h1', h3'⟩ := hA'
 have hp' : tmps[p]?.getD undef = .pointer (some ⟨g, 0, none⟩) := by simpa using hp
 have hq' : tmps[q]?.getD undef = .pointer (some ⟨g', 0, none⟩) := by simpa using hq
 have hr' : tmps[r]?.getD undef = x := by simpa using hr
 have e1 := run_loadVar_row (P := Tryz.prog) w g ty ty (SC n V) (0, 0) _ hg h1 (by cases d <;> first | rfl | exact h2) (by rw [SC_size]; exact h3)
 have e2 := run_loadVar_row (P := Tryz.prog) w g' ty' ty' (WA k' n' s') (0, 0) _ hg' h1' rfl (by rw [WA_size]; exact h3')
 simp [results, h, hp', hq', hr', asAddr, e1, e2]
theorem enterBeginCl (args : Array Value) (w : World) : (callFunc 35 args).run Tryz.prog w = .ok (.enter 35 args) w := by kernel_rfl
set_option maxHeartbeats 1600000 in
theorem Begin_cl (b0 b1 b2 b3 b4 b5 b6 : Nat) (O : Nat → Int) (P : Nat → Int) (E : Nat → Int) (T : Nat → Int) (ix : Int) (MS : ByteArray) (V : Nat → Value) (u : World) (hE : Env u) (c0 : ArrAt u b0 .u8 22 32 O) (c1 : ArrAt u b1 .u8 22 32 P) (c2 : ArrAt u b2 .u8 22 32 E) (c3 : ArrAt u b3 .u8 26 12 T) (c4 : CAt u b4 23 (.int .u32 ix)) (c5 : CAt u b5 9 (.string ⟨#[]⟩)) (c6 : SAt u b6 31 162 hanZ) (h1V : ∀ i, (V i).oneCell' = true) (hne : b5 ≠ b6) 
  (hst : ∀ u, Env u → Calls Tryz.prog 36 #[.agg (WA .u8 32 O), .agg (WA .u8 32 P), .agg (WA .u8 32 E), .agg (WA .u8 12 T), .int .u32 ix] u fun e w' => e = .returned (.tuple #[.string MS, .agg (SC 162 V)]) ∧ Below u.heap.size u w') :
  Calls Tryz.prog 35 #[.pointer (some ⟨b0, 0, none⟩), .pointer (some ⟨b1, 0, none⟩), .pointer (some ⟨b2, 0, none⟩), .pointer (some ⟨b3, 0, none⟩), .pointer (some ⟨b4, 0, none⟩), .pointer (some ⟨b5, 0, none⟩), .pointer (some ⟨b6, 0, none⟩)] u fun e w' => e = .returned (.tuple #[]) ∧ CAt w' b5 9 (.string MS) ∧ SAt w' b6 31 162 V ∧ Touch (fun x => x = b5 ∨ x = b6) u w' := by
 have touch_or0 : ∀ {p q : World}, Only b5 p q → Touch (fun x => x = b5 ∨ x = b6) p q := fun o => ⟨o.os, o.tape, o.output, by rw [o.size]; exact Nat.le_refl _, fun k _ hn => o.block k (fun h => hn (by simp [h]))⟩
 have touch_or1 : ∀ {p q : World}, Only b6 p q → Touch (fun x => x = b5 ∨ x = b6) p q := fun o => ⟨o.os, o.tape, o.output, by rw [o.size]; exact Nat.le_refl _, fun k _ hn => o.block k (fun h => hn (by simp [h]))⟩
 have e4 := c4.at
 go_enter Tryz.func35, Tryz.ntmps35
 go_wp2_with (first | (refine ld_arr isArr32 c0 (by rfl) ?_) | (refine ld_arr isArr32 c1 (by rfl) ?_) | (refine ld_arr isArr32 c2 (by rfl) ?_) | (refine ld_arr isArr12 c3 (by rfl) ?_))
 refine (hst _ hE).mono ?_
 rintro x v1 ⟨rfl, hb⟩
 replace c5 := c5.kept hb
 replace c6 := c6.kept hb
 have ht : Touch (fun x => x = b5 ∨ x = b6) u v1 := touch_le hb
 clear hb
 have s0 := c5.at
 have z0 := c5.free
 have d0 := Hid.mk (c5.set (.string MS))
 have ht0 : Touch (fun x => x = b5 ∨ x = b6) u (v1.setCell ⟨b5, 0, none⟩ (.string MS)) := touch_tr ht (touch_or0 only_set)
 replace c6 := c6.only (only_set (w := v1) (g := b5) (i := 0) (v := .string MS)) (Ne.symm hne)
 replace ht := ht0
 clear ht0 c5
 go_wp2_with (refine st_st isHand h1V c6 (by rfl) (by rfl) ?_; intro y1 d10 o1; refine Hid.out ?_)
 have d1 := Hid.mk d10
 replace d0 := Hid.mk (d0.out.only o1 hne)
 replace ht := touch_tr ht (touch_or1 o1)
 clear d10 o1
 refine Hid.mk ?_
 go_wp2_with fail
 exact bodyPost_end (results_none rfl _ _ _) rfl ⟨rfl, d0.out, d1.out, ht⟩
set_option maxHeartbeats 1600000 in
theorem Begin_cn (b0 b1 b2 b3 b4 b5 b6 : Nat) (O : Nat → Int) (P : Nat → Int) (E : Nat → Int) (T : Nat → Int) (ix : Int) (X : Int) (u : World) (hE : Env u) (c0 : ArrAt u b0 .u8 22 32 O) (c1 : ArrAt u b1 .u8 22 32 P) (c2 : ArrAt u b2 .u8 22 32 E) (c3 : ArrAt u b3 .u8 26 12 T) (c4 : CAt u b4 23 (.int .u32 ix))
  (hst : ∀ u, Env u → Calls Tryz.prog 36 #[.agg (WA .u8 32 O), .agg (WA .u8 32 P), .agg (WA .u8 32 E), .agg (WA .u8 12 T), .int .u32 ix] u fun e w' => e = gup X ∧ Below u.heap.size u w') :
  Calls Tryz.prog 35 #[.pointer (some ⟨b0, 0, none⟩), .pointer (some ⟨b1, 0, none⟩), .pointer (some ⟨b2, 0, none⟩), .pointer (some ⟨b3, 0, none⟩), .pointer (some ⟨b4, 0, none⟩), .pointer (some ⟨b5, 0, none⟩), .pointer (some ⟨b6, 0, none⟩)] u fun e w' => e = gup X ∧ Below u.heap.size u w' := by
 have e4 := c4.at
 go_enter Tryz.func35, Tryz.ntmps35
 go_wp2_with (first | (refine ld_arr isArr32 c0 (by rfl) ?_) | (refine ld_arr isArr32 c1 (by rfl) ?_) | (refine ld_arr isArr32 c2 (by rfl) ?_) | (refine ld_arr isArr12 c3 (by rfl) ?_))
 refine (hst _ hE).mono ?_
 rintro x v1 ⟨rfl, hb⟩
 exact ⟨rfl, rfl, hb⟩
set_option linter.unusedVariables false in
set_option maxHeartbeats 4000000 in
set_option maxRecDepth 100000 in
theorem Begin_ok (O : Nat → Int) (P : Nat → Int) (E : Nat → Int) (T : Nat → Int) (ix : Int) (MS : ByteArray) (V : Nat → Value) (w : World) (hE : Env w) (h1V : ∀ i, (V i).oneCell' = true)
  (hst : ∀ u, Env u → Calls Tryz.prog 36 #[.agg (WA .u8 32 O), .agg (WA .u8 32 P), .agg (WA .u8 32 E), .agg (WA .u8 12 T), .int .u32 ix] u fun e w' => e = .returned (.tuple #[.string MS, .agg (SC 162 V)]) ∧ Below u.heap.size u w') :
  Calls Tryz.prog 9 #[.agg (WA .u8 32 O), .agg (WA .u8 32 P), .agg (WA .u8 32 E), .agg (WA .u8 12 T), .int .u32 ix] w fun e w' => e = .returned (.tuple #[.string MS, .agg (SC 162 V), .int .i64 0]) ∧ Below w.heap.size w w' := by
 have hB : Below w.heap.size w ((((((((w.alloc (.cells (WA .u8 32 O) 22)).alloc (.cells (WA .u8 32 P) 22)).alloc (.cells (WA .u8 32 E) 22)).alloc (.cells (WA .u8 12 T) 26)).alloc (.cells #[.int .u32 ix] 23)).alloc (.cells Tryz.zeroCells31 31)).alloc (.cells #[.string ⟨#[]⟩] 9)).alloc (.cells Tryz.zeroCells31 31)) := ((((((((Below.refl _ w).alloc (by simp) _).alloc (by simp) _).alloc (by simp; omega) _).alloc (by simp; omega) _).alloc (by simp; omega) _).alloc (by simp; omega) _).alloc (by simp; omega) _).alloc (by simp; omega) _
 have g0 : ArrAt ((((((((w.alloc (.cells (WA .u8 32 O) 22)).alloc (.cells (WA .u8 32 P) 22)).alloc (.cells (WA .u8 32 E) 22)).alloc (.cells (WA .u8 12 T) 26)).alloc (.cells #[.int .u32 ix] 23)).alloc (.cells Tryz.zeroCells31 31)).alloc (.cells #[.string ⟨#[]⟩] 9)).alloc (.cells Tryz.zeroCells31 31)) w.heap.size .u8 22 32 O := heap_keep_alloc _ (heap_keep_alloc _ (heap_keep_alloc _ (heap_keep_alloc _ (heap_keep_alloc _ (heap_keep_alloc _ (heap_keep_alloc _ (heap_at_alloc w _ w.heap.size (by simp))))))))
 have g1 : ArrAt ((((((((w.alloc (.cells (WA .u8 32 O) 22)).alloc (.cells (WA .u8 32 P) 22)).alloc (.cells (WA .u8 32 E) 22)).alloc (.cells (WA .u8 12 T) 26)).alloc (.cells #[.int .u32 ix] 23)).alloc (.cells Tryz.zeroCells31 31)).alloc (.cells #[.string ⟨#[]⟩] 9)).alloc (.cells Tryz.zeroCells31 31)) (w.heap.size + 1) .u8 22 32 P := heap_keep_alloc _ (heap_keep_alloc _ (heap_keep_alloc _ (heap_keep_alloc _ (heap_keep_alloc _ (heap_keep_alloc _ (heap_at_alloc (w.alloc (.cells (WA .u8 32 O) 22)) _ (w.heap.size + 1) (by simp)))))))
 have g2 : ArrAt ((((((((w.alloc (.cells (WA .u8 32 O) 22)).alloc (.cells (WA .u8 32 P) 22)).alloc (.cells (WA .u8 32 E) 22)).alloc (.cells (WA .u8 12 T) 26)).alloc (.cells #[.int .u32 ix] 23)).alloc (.cells Tryz.zeroCells31 31)).alloc (.cells #[.string ⟨#[]⟩] 9)).alloc (.cells Tryz.zeroCells31 31)) (w.heap.size + 1 + 1) .u8 22 32 E := heap_keep_alloc _ (heap_keep_alloc _ (heap_keep_alloc _ (heap_keep_alloc _ (heap_keep_alloc _ (heap_at_alloc ((w.alloc (.cells (WA .u8 32 O) 22)).alloc (.cells (WA .u8 32 P) 22)) _ (w.heap.size + 1 + 1) (by simp))))))
 have g3 : ArrAt ((((((((w.alloc (.cells (WA .u8 32 O) 22)).alloc (.cells (WA .u8 32 P) 22)).alloc (.cells (WA .u8 32 E) 22)).alloc (.cells (WA .u8 12 T) 26)).alloc (.cells #[.int .u32 ix] 23)).alloc (.cells Tryz.zeroCells31 31)).alloc (.cells #[.string ⟨#[]⟩] 9)).alloc (.cells Tryz.zeroCells31 31)) (w.heap.size + 1 + 1 + 1) .u8 26 12 T := heap_keep_alloc _ (heap_keep_alloc _ (heap_keep_alloc _ (heap_keep_alloc _ (heap_at_alloc (((w.alloc (.cells (WA .u8 32 O) 22)).alloc (.cells (WA .u8 32 P) 22)).alloc (.cells (WA .u8 32 E) 22)) _ (w.heap.size + 1 + 1 + 1) (by simp)))))
 have g4 : CAt ((((((((w.alloc (.cells (WA .u8 32 O) 22)).alloc (.cells (WA .u8 32 P) 22)).alloc (.cells (WA .u8 32 E) 22)).alloc (.cells (WA .u8 12 T) 26)).alloc (.cells #[.int .u32 ix] 23)).alloc (.cells Tryz.zeroCells31 31)).alloc (.cells #[.string ⟨#[]⟩] 9)).alloc (.cells Tryz.zeroCells31 31)) (w.heap.size + 1 + 1 + 1 + 1) 23 (.int .u32 ix) := heap_keep_alloc _ (heap_keep_alloc _ (heap_keep_alloc _ (heap_at_alloc ((((w.alloc (.cells (WA .u8 32 O) 22)).alloc (.cells (WA .u8 32 P) 22)).alloc (.cells (WA .u8 32 E) 22)).alloc (.cells (WA .u8 12 T) 26)) _ (w.heap.size + 1 + 1 + 1 + 1) (by simp))))
 have g5 : SAt ((((((((w.alloc (.cells (WA .u8 32 O) 22)).alloc (.cells (WA .u8 32 P) 22)).alloc (.cells (WA .u8 32 E) 22)).alloc (.cells (WA .u8 12 T) 26)).alloc (.cells #[.int .u32 ix] 23)).alloc (.cells Tryz.zeroCells31 31)).alloc (.cells #[.string ⟨#[]⟩] 9)).alloc (.cells Tryz.zeroCells31 31)) (w.heap.size + 1 + 1 + 1 + 1 + 1) 31 162 hanZ := by
  have h : (((((((((w.alloc (.cells (WA .u8 32 O) 22)).alloc (.cells (WA .u8 32 P) 22)).alloc (.cells (WA .u8 32 E) 22)).alloc (.cells (WA .u8 12 T) 26)).alloc (.cells #[.int .u32 ix] 23)).alloc (.cells Tryz.zeroCells31 31)).alloc (.cells #[.string ⟨#[]⟩] 9)).alloc (.cells Tryz.zeroCells31 31))).heap[(w.heap.size + 1 + 1 + 1 + 1 + 1)]? = some (.cells Tryz.zeroCells31 31) := heap_keep_alloc _ (heap_keep_alloc _ (heap_at_alloc (((((w.alloc (.cells (WA .u8 32 O) 22)).alloc (.cells (WA .u8 32 P) 22)).alloc (.cells (WA .u8 32 E) 22)).alloc (.cells (WA .u8 12 T) 26)).alloc (.cells #[.int .u32 ix] 23)) _ (w.heap.size + 1 + 1 + 1 + 1 + 1) (by simp)))
  unfold SAt
  rw [← zeroHand]
  exact h
 have g6 : CAt ((((((((w.alloc (.cells (WA .u8 32 O) 22)).alloc (.cells (WA .u8 32 P) 22)).alloc (.cells (WA .u8 32 E) 22)).alloc (.cells (WA .u8 12 T) 26)).alloc (.cells #[.int .u32 ix] 23)).alloc (.cells Tryz.zeroCells31 31)).alloc (.cells #[.string ⟨#[]⟩] 9)).alloc (.cells Tryz.zeroCells31 31)) (w.heap.size + 1 + 1 + 1 + 1 + 1 + 1) 9 (.string ⟨#[]⟩) := heap_keep_alloc _ (heap_at_alloc ((((((w.alloc (.cells (WA .u8 32 O) 22)).alloc (.cells (WA .u8 32 P) 22)).alloc (.cells (WA .u8 32 E) 22)).alloc (.cells (WA .u8 12 T) 26)).alloc (.cells #[.int .u32 ix] 23)).alloc (.cells Tryz.zeroCells31 31)) _ (w.heap.size + 1 + 1 + 1 + 1 + 1 + 1) (by simp))
 have g7 : SAt ((((((((w.alloc (.cells (WA .u8 32 O) 22)).alloc (.cells (WA .u8 32 P) 22)).alloc (.cells (WA .u8 32 E) 22)).alloc (.cells (WA .u8 12 T) 26)).alloc (.cells #[.int .u32 ix] 23)).alloc (.cells Tryz.zeroCells31 31)).alloc (.cells #[.string ⟨#[]⟩] 9)).alloc (.cells Tryz.zeroCells31 31)) (w.heap.size + 1 + 1 + 1 + 1 + 1 + 1 + 1) 31 162 hanZ := by
  have h : (((((((((w.alloc (.cells (WA .u8 32 O) 22)).alloc (.cells (WA .u8 32 P) 22)).alloc (.cells (WA .u8 32 E) 22)).alloc (.cells (WA .u8 12 T) 26)).alloc (.cells #[.int .u32 ix] 23)).alloc (.cells Tryz.zeroCells31 31)).alloc (.cells #[.string ⟨#[]⟩] 9)).alloc (.cells Tryz.zeroCells31 31))).heap[(w.heap.size + 1 + 1 + 1 + 1 + 1 + 1 + 1)]? = some (.cells Tryz.zeroCells31 31) := heap_at_alloc (((((((w.alloc (.cells (WA .u8 32 O) 22)).alloc (.cells (WA .u8 32 P) 22)).alloc (.cells (WA .u8 32 E) 22)).alloc (.cells (WA .u8 12 T) 26)).alloc (.cells #[.int .u32 ix] 23)).alloc (.cells Tryz.zeroCells31 31)).alloc (.cells #[.string ⟨#[]⟩] 9)) _ (w.heap.size + 1 + 1 + 1 + 1 + 1 + 1 + 1) (by simp)
  unfold SAt
  rw [← zeroHand]
  exact h
 replace hE := hE.kept hB
 have hss : (((((((((w.alloc (.cells (WA .u8 32 O) 22)).alloc (.cells (WA .u8 32 P) 22)).alloc (.cells (WA .u8 32 E) 22)).alloc (.cells (WA .u8 12 T) 26)).alloc (.cells #[.int .u32 ix] 23)).alloc (.cells Tryz.zeroCells31 31)).alloc (.cells #[.string ⟨#[]⟩] 9)).alloc (.cells Tryz.zeroCells31 31))).heap.size = w.heap.size + 1 + 1 + 1 + 1 + 1 + 1 + 1 + 1 := by simp
 have hAt := attempt_run 35 #[.pointer (some ⟨w.heap.size, 0, none⟩), .pointer (some ⟨(w.heap.size + 1), 0, none⟩), .pointer (some ⟨(w.heap.size + 1 + 1), 0, none⟩), .pointer (some ⟨(w.heap.size + 1 + 1 + 1), 0, none⟩), .pointer (some ⟨(w.heap.size + 1 + 1 + 1 + 1), 0, none⟩), .pointer (some ⟨(w.heap.size + 1 + 1 + 1 + 1 + 1 + 1), 0, none⟩), .pointer (some ⟨(w.heap.size + 1 + 1 + 1 + 1 + 1 + 1 + 1), 0, none⟩)] (fun x => x = (w.heap.size + 1 + 1 + 1 + 1 + 1 + 1) ∨ x = (w.heap.size + 1 + 1 + 1 + 1 + 1 + 1 + 1)) (fun x v => x = 0 ∧ CAt v (w.heap.size + 1 + 1 + 1 + 1 + 1 + 1) 9 (.string MS) ∧ SAt v (w.heap.size + 1 + 1 + 1 + 1 + 1 + 1 + 1) 31 162 V) ((((((((w.alloc (.cells (WA .u8 32 O) 22)).alloc (.cells (WA .u8 32 P) 22)).alloc (.cells (WA .u8 32 E) 22)).alloc (.cells (WA .u8 12 T) 26)).alloc (.cells #[.int .u32 ix] 23)).alloc (.cells Tryz.zeroCells31 31)).alloc (.cells #[.string ⟨#[]⟩] 9)).alloc (.cells Tryz.zeroCells31 31)) enterBeginCl (fun x hx => by simp at hx ⊢; omega) (fun u hu => by
  refine ((Begin_cl w.heap.size (w.heap.size + 1) (w.heap.size + 1 + 1) (w.heap.size + 1 + 1 + 1) (w.heap.size + 1 + 1 + 1 + 1) (w.heap.size + 1 + 1 + 1 + 1 + 1 + 1) (w.heap.size + 1 + 1 + 1 + 1 + 1 + 1 + 1) O P E T ix MS V u (hE.kept hu) (g0.kept hu) (g1.kept hu) (g2.kept hu) (g3.kept hu) (g4.kept hu) (g6.kept hu) (g7.kept hu) h1V (by omega) hst).mono ?_)
  rintro e v ⟨rfl, p0, p1, ht⟩
  exact ⟨ht, 0, .inl ⟨rfl, rfl⟩, rfl, p0, p1⟩)
 have hmf : ∀ (fn : Fn) (first cap : Array Value) (w : World), (Instr.makeFunc fn first cap).run Tryz.prog w = .ok (.func fn first cap) w := fun _ _ _ _ => rfl
 go_enter Tryz.func9, Tryz.ntmps9
 go_wp2_with fail
 refine hAt.mono ?_
 rintro e v0 ⟨x, vc, rfl, ⟨hx, p0, p1⟩, tT, hb⟩
 have hx' := hx.symm
 clear hx
 subst hx'
 clear hAt hmf
 replace p0 := p0.block (hb.block (w.heap.size + 1 + 1 + 1 + 1 + 1 + 1) (by omega))
 replace p1 := p1.block (hb.block (w.heap.size + 1 + 1 + 1 + 1 + 1 + 1 + 1) (by omega))
 replace g5 := g5.block (tT.block (w.heap.size + 1 + 1 + 1 + 1 + 1) g5.lt (by omega))
 replace hB : Below w.heap.size w v0 := ⟨tT.os.trans hB.os, tT.tape.trans hB.tape, tT.output.trans hB.output, Nat.le_trans hB.size tT.size, fun k hk => (tT.block k (by have := hB.size; omega) (by omega)).trans (hB.block k hk)⟩
 clear tT hb hss g0 g1 g2 g3 g4 g6 g7 hE
 go_wp2_with fail
 have HL0 : Hid (∀ u, Touch (fun x => x = (w.heap.size + 1 + 1 + 1 + 1 + 1)) v0 u → CAt u (w.heap.size + 1 + 1 + 1 + 1 + 1 + 1) 9 (.string MS)) := Hid.mk (fun u hu => p0.block (hu.block (w.heap.size + 1 + 1 + 1 + 1 + 1 + 1) p0.lt (by omega)))
 have HL1 : Hid (∀ u, Touch (fun x => x = (w.heap.size + 1 + 1 + 1 + 1 + 1)) v0 u → SAt u (w.heap.size + 1 + 1 + 1 + 1 + 1 + 1 + 1) 31 162 V) := Hid.mk (fun u hu => p1.block (hu.block (w.heap.size + 1 + 1 + 1 + 1 + 1 + 1 + 1) p1.lt (by omega)))
 refine wp_region3 (Touch (fun x => x = (w.heap.size + 1 + 1 + 1 + 1 + 1)) v0) v0.heap.size
   [((w.heap.size + 1 + 1 + 1 + 1 + 1), once (SC 162 hanZ) 31 4 (SC 162 V))]
   [kv (.string MS), kv (.agg (SC 162 V)), kv (.int .i64 0), kv (.string MS), .val fun _ => True, kv (.int .i64 0)]
   [.none, .none, .none, .none, .base 0 1, .none]
   [some 18, some 19, some 20, some 10, none, some 12]
   [(13, .pointer (some ⟨(w.heap.size + 1 + 1 + 1 + 1 + 1 + 1), 0, none⟩)), (14, .pointer (some ⟨(w.heap.size + 1 + 1 + 1 + 1 + 1 + 1 + 1), 0, none⟩)), (15, .int .i64 0), (11, .pointer (some ⟨(w.heap.size + 1 + 1 + 1 + 1 + 1), 0, none⟩))]
   [[], [], [], [.slot 0], [.slot 1, .base 0 0], [.slot 2]]
   [.base 0 1, .slot 3, .slot 5] [18, 19, 20, 10, 12]
   rfl (by kernel_rfl) ⟨rfl, rfl, rfl, rfl, trivial⟩ (touch_le (Below.refl _ v0).drew) (Nat.le_refl _) ⟨⟨g5.lt, obIn g5⟩, trivial⟩ ⟨trivial, trivial⟩ (touch_GT (fun k hk => by simpa using hk))
   ⟨
    (fun Q aq ww own hS hBg fr kn => .inl ⟨trivial, fun K hK => wp_value (exec_ld rfl fr.1 (load_str (HL0.out ww hS).at)) (hK _ _ ⟨Touch.refl _ _, rfl⟩)⟩),
    (fun Q aq ww own hS hBg fr kn => .inl ⟨trivial, fun K hK => wp_value (look_st rfl isHand (HL1.out ww hS) fr.2.1) (hK _ _ ⟨Touch.refl _ _, rfl⟩)⟩),
    (fun Q aq ww own hS hBg fr kn => .inl ⟨trivial, fun K hK => wp_value (exec_move rfl fr.2.2.1) (hK _ _ ⟨Touch.refl _ _, rfl⟩)⟩),
    (fun Q aq ww own hS hBg fr kn => .inl ⟨trivial, fun K hK => wp_value (exec_assign rfl kn.1) (hK _ _ ⟨Touch.refl _ _, rfl⟩)⟩),
    (fun Q aq ww own hS hBg fr kn => .inl ⟨trivial, fun K hK => act_st7 rfl isHand h1V fr.2.2.2.1 kn.1 (obAt kn.2.1) (fun w2 hg ho => hK _ _ ⟨⟨touch_only ho, obIn hg⟩, trivial⟩)⟩),
    (fun Q aq ww own hS hBg fr kn => .inl ⟨trivial, fun K hK => wp_value (exec_assign rfl kn.1) (hK _ _ ⟨Touch.refl _ _, rfl⟩)⟩),
    trivial⟩ ?_
 intro vs own v9 hT1 hsz kn inj
 clear inj hsz
 have q0 : SAt v9 (w.heap.size + 1 + 1 + 1 + 1 + 1) 31 162 V := obAt kn.1
 have e10 : vs 10 = _ := kn.2.1
 have e12 : vs 12 = _ := kn.2.2.1
 clear kn HL0 HL1
 replace hB : Below w.heap.size w v9 := ⟨hT1.os.trans hB.os, hT1.tape.trans hB.tape, hT1.output.trans hB.output, Nat.le_trans hB.size hT1.size, fun k hk => (hT1.block k (by have := hB.size; omega) (by omega)).trans (hB.block k hk)⟩
 simp only [putAll, Act.put, List.setIfInBounds_toArray, List.set_cons_zero, List.set_cons_succ, e10, e12]
 go_wp2_with fail
 exact bodyPost_ret (v := .tuple #[.string MS, .agg (SC 162 V), .int .i64 0]) (res_tct Tryz.results9 isHand q0 (by rfl) (by rfl) (by rfl)) rfl ⟨rfl, hB⟩
set_option linter.unusedVariables false in
set_option maxHeartbeats 4000000 in
set_option maxRecDepth 100000 in
theorem Begin_no (O : Nat → Int) (P : Nat → Int) (E : Nat → Int) (T : Nat → Int) (ix : Int) (X : Int) (w : World) (hE : Env w) 
  (hst : ∀ u, Env u → Calls Tryz.prog 36 #[.agg (WA .u8 32 O), .agg (WA .u8 32 P), .agg (WA .u8 32 E), .agg (WA .u8 12 T), .int .u32 ix] u fun e w' => e = gup X ∧ Below u.heap.size u w') :
  Calls Tryz.prog 9 #[.agg (WA .u8 32 O), .agg (WA .u8 32 P), .agg (WA .u8 32 E), .agg (WA .u8 12 T), .int .u32 ix] w fun e w' => e = .returned (.tuple #[.string ⟨#[]⟩, .agg (SC 162 hanZ), .int .i64 X]) ∧ Below w.heap.size w w' := by
 have hB : Below w.heap.size w ((((((((w.alloc (.cells (WA .u8 32 O) 22)).alloc (.cells (WA .u8 32 P) 22)).alloc (.cells (WA .u8 32 E) 22)).alloc (.cells (WA .u8 12 T) 26)).alloc (.cells #[.int .u32 ix] 23)).alloc (.cells Tryz.zeroCells31 31)).alloc (.cells #[.string ⟨#[]⟩] 9)).alloc (.cells Tryz.zeroCells31 31)) := ((((((((Below.refl _ w).alloc (by simp) _).alloc (by simp) _).alloc (by simp; omega) _).alloc (by simp; omega) _).alloc (by simp; omega) _).alloc (by simp; omega) _).alloc (by simp; omega) _).alloc (by simp; omega) _
 have g0 : ArrAt ((((((((w.alloc (.cells (WA .u8 32 O) 22)).alloc (.cells (WA .u8 32 P) 22)).alloc (.cells (WA .u8 32 E) 22)).alloc (.cells (WA .u8 12 T) 26)).alloc (.cells #[.int .u32 ix] 23)).alloc (.cells Tryz.zeroCells31 31)).alloc (.cells #[.string ⟨#[]⟩] 9)).alloc (.cells Tryz.zeroCells31 31)) w.heap.size .u8 22 32 O := heap_keep_alloc _ (heap_keep_alloc _ (heap_keep_alloc _ (heap_keep_alloc _ (heap_keep_alloc _ (heap_keep_alloc _ (heap_keep_alloc _ (heap_at_alloc w _ w.heap.size (by simp))))))))
 have g1 : ArrAt ((((((((w.alloc (.cells (WA .u8 32 O) 22)).alloc (.cells (WA .u8 32 P) 22)).alloc (.cells (WA .u8 32 E) 22)).alloc (.cells (WA .u8 12 T) 26)).alloc (.cells #[.int .u32 ix] 23)).alloc (.cells Tryz.zeroCells31 31)).alloc (.cells #[.string ⟨#[]⟩] 9)).alloc (.cells Tryz.zeroCells31 31)) (w.heap.size + 1) .u8 22 32 P := heap_keep_alloc _ (heap_keep_alloc _ (heap_keep_alloc _ (heap_keep_alloc _ (heap_keep_alloc _ (heap_keep_alloc _ (heap_at_alloc (w.alloc (.cells (WA .u8 32 O) 22)) _ (w.heap.size + 1) (by simp)))))))
 have g2 : ArrAt ((((((((w.alloc (.cells (WA .u8 32 O) 22)).alloc (.cells (WA .u8 32 P) 22)).alloc (.cells (WA .u8 32 E) 22)).alloc (.cells (WA .u8 12 T) 26)).alloc (.cells #[.int .u32 ix] 23)).alloc (.cells Tryz.zeroCells31 31)).alloc (.cells #[.string ⟨#[]⟩] 9)).alloc (.cells Tryz.zeroCells31 31)) (w.heap.size + 1 + 1) .u8 22 32 E := heap_keep_alloc _ (heap_keep_alloc _ (heap_keep_alloc _ (heap_keep_alloc _ (heap_keep_alloc _ (heap_at_alloc ((w.alloc (.cells (WA .u8 32 O) 22)).alloc (.cells (WA .u8 32 P) 22)) _ (w.heap.size + 1 + 1) (by simp))))))
 have g3 : ArrAt ((((((((w.alloc (.cells (WA .u8 32 O) 22)).alloc (.cells (WA .u8 32 P) 22)).alloc (.cells (WA .u8 32 E) 22)).alloc (.cells (WA .u8 12 T) 26)).alloc (.cells #[.int .u32 ix] 23)).alloc (.cells Tryz.zeroCells31 31)).alloc (.cells #[.string ⟨#[]⟩] 9)).alloc (.cells Tryz.zeroCells31 31)) (w.heap.size + 1 + 1 + 1) .u8 26 12 T := heap_keep_alloc _ (heap_keep_alloc _ (heap_keep_alloc _ (heap_keep_alloc _ (heap_at_alloc (((w.alloc (.cells (WA .u8 32 O) 22)).alloc (.cells (WA .u8 32 P) 22)).alloc (.cells (WA .u8 32 E) 22)) _ (w.heap.size + 1 + 1 + 1) (by simp)))))
 have g4 : CAt ((((((((w.alloc (.cells (WA .u8 32 O) 22)).alloc (.cells (WA .u8 32 P) 22)).alloc (.cells (WA .u8 32 E) 22)).alloc (.cells (WA .u8 12 T) 26)).alloc (.cells #[.int .u32 ix] 23)).alloc (.cells Tryz.zeroCells31 31)).alloc (.cells #[.string ⟨#[]⟩] 9)).alloc (.cells Tryz.zeroCells31 31)) (w.heap.size + 1 + 1 + 1 + 1) 23 (.int .u32 ix) := heap_keep_alloc _ (heap_keep_alloc _ (heap_keep_alloc _ (heap_at_alloc ((((w.alloc (.cells (WA .u8 32 O) 22)).alloc (.cells (WA .u8 32 P) 22)).alloc (.cells (WA .u8 32 E) 22)).alloc (.cells (WA .u8 12 T) 26)) _ (w.heap.size + 1 + 1 + 1 + 1) (by simp))))
 have g5 : SAt ((((((((w.alloc (.cells (WA .u8 32 O) 22)).alloc (.cells (WA .u8 32 P) 22)).alloc (.cells (WA .u8 32 E) 22)).alloc (.cells (WA .u8 12 T) 26)).alloc (.cells #[.int .u32 ix] 23)).alloc (.cells Tryz.zeroCells31 31)).alloc (.cells #[.string ⟨#[]⟩] 9)).alloc (.cells Tryz.zeroCells31 31)) (w.heap.size + 1 + 1 + 1 + 1 + 1) 31 162 hanZ := by
  have h : (((((((((w.alloc (.cells (WA .u8 32 O) 22)).alloc (.cells (WA .u8 32 P) 22)).alloc (.cells (WA .u8 32 E) 22)).alloc (.cells (WA .u8 12 T) 26)).alloc (.cells #[.int .u32 ix] 23)).alloc (.cells Tryz.zeroCells31 31)).alloc (.cells #[.string ⟨#[]⟩] 9)).alloc (.cells Tryz.zeroCells31 31))).heap[(w.heap.size + 1 + 1 + 1 + 1 + 1)]? = some (.cells Tryz.zeroCells31 31) := heap_keep_alloc _ (heap_keep_alloc _ (heap_at_alloc (((((w.alloc (.cells (WA .u8 32 O) 22)).alloc (.cells (WA .u8 32 P) 22)).alloc (.cells (WA .u8 32 E) 22)).alloc (.cells (WA .u8 12 T) 26)).alloc (.cells #[.int .u32 ix] 23)) _ (w.heap.size + 1 + 1 + 1 + 1 + 1) (by simp)))
  unfold SAt
  rw [← zeroHand]
  exact h
 have g6 : CAt ((((((((w.alloc (.cells (WA .u8 32 O) 22)).alloc (.cells (WA .u8 32 P) 22)).alloc (.cells (WA .u8 32 E) 22)).alloc (.cells (WA .u8 12 T) 26)).alloc (.cells #[.int .u32 ix] 23)).alloc (.cells Tryz.zeroCells31 31)).alloc (.cells #[.string ⟨#[]⟩] 9)).alloc (.cells Tryz.zeroCells31 31)) (w.heap.size + 1 + 1 + 1 + 1 + 1 + 1) 9 (.string ⟨#[]⟩) := heap_keep_alloc _ (heap_at_alloc ((((((w.alloc (.cells (WA .u8 32 O) 22)).alloc (.cells (WA .u8 32 P) 22)).alloc (.cells (WA .u8 32 E) 22)).alloc (.cells (WA .u8 12 T) 26)).alloc (.cells #[.int .u32 ix] 23)).alloc (.cells Tryz.zeroCells31 31)) _ (w.heap.size + 1 + 1 + 1 + 1 + 1 + 1) (by simp))
 have g7 : SAt ((((((((w.alloc (.cells (WA .u8 32 O) 22)).alloc (.cells (WA .u8 32 P) 22)).alloc (.cells (WA .u8 32 E) 22)).alloc (.cells (WA .u8 12 T) 26)).alloc (.cells #[.int .u32 ix] 23)).alloc (.cells Tryz.zeroCells31 31)).alloc (.cells #[.string ⟨#[]⟩] 9)).alloc (.cells Tryz.zeroCells31 31)) (w.heap.size + 1 + 1 + 1 + 1 + 1 + 1 + 1) 31 162 hanZ := by
  have h : (((((((((w.alloc (.cells (WA .u8 32 O) 22)).alloc (.cells (WA .u8 32 P) 22)).alloc (.cells (WA .u8 32 E) 22)).alloc (.cells (WA .u8 12 T) 26)).alloc (.cells #[.int .u32 ix] 23)).alloc (.cells Tryz.zeroCells31 31)).alloc (.cells #[.string ⟨#[]⟩] 9)).alloc (.cells Tryz.zeroCells31 31))).heap[(w.heap.size + 1 + 1 + 1 + 1 + 1 + 1 + 1)]? = some (.cells Tryz.zeroCells31 31) := heap_at_alloc (((((((w.alloc (.cells (WA .u8 32 O) 22)).alloc (.cells (WA .u8 32 P) 22)).alloc (.cells (WA .u8 32 E) 22)).alloc (.cells (WA .u8 12 T) 26)).alloc (.cells #[.int .u32 ix] 23)).alloc (.cells Tryz.zeroCells31 31)).alloc (.cells #[.string ⟨#[]⟩] 9)) _ (w.heap.size + 1 + 1 + 1 + 1 + 1 + 1 + 1) (by simp)
  unfold SAt
  rw [← zeroHand]
  exact h
 replace hE := hE.kept hB
 have hss : (((((((((w.alloc (.cells (WA .u8 32 O) 22)).alloc (.cells (WA .u8 32 P) 22)).alloc (.cells (WA .u8 32 E) 22)).alloc (.cells (WA .u8 12 T) 26)).alloc (.cells #[.int .u32 ix] 23)).alloc (.cells Tryz.zeroCells31 31)).alloc (.cells #[.string ⟨#[]⟩] 9)).alloc (.cells Tryz.zeroCells31 31))).heap.size = w.heap.size + 1 + 1 + 1 + 1 + 1 + 1 + 1 + 1 := by simp
 have hAt := attempt_run 35 #[.pointer (some ⟨w.heap.size, 0, none⟩), .pointer (some ⟨(w.heap.size + 1), 0, none⟩), .pointer (some ⟨(w.heap.size + 1 + 1), 0, none⟩), .pointer (some ⟨(w.heap.size + 1 + 1 + 1), 0, none⟩), .pointer (some ⟨(w.heap.size + 1 + 1 + 1 + 1), 0, none⟩), .pointer (some ⟨(w.heap.size + 1 + 1 + 1 + 1 + 1 + 1), 0, none⟩), .pointer (some ⟨(w.heap.size + 1 + 1 + 1 + 1 + 1 + 1 + 1), 0, none⟩)] (fun x => x = (w.heap.size + 1 + 1 + 1 + 1 + 1 + 1) ∨ x = (w.heap.size + 1 + 1 + 1 + 1 + 1 + 1 + 1)) (fun x v => x = X ∧ CAt v (w.heap.size + 1 + 1 + 1 + 1 + 1 + 1) 9 (.string ⟨#[]⟩) ∧ SAt v (w.heap.size + 1 + 1 + 1 + 1 + 1 + 1 + 1) 31 162 hanZ) ((((((((w.alloc (.cells (WA .u8 32 O) 22)).alloc (.cells (WA .u8 32 P) 22)).alloc (.cells (WA .u8 32 E) 22)).alloc (.cells (WA .u8 12 T) 26)).alloc (.cells #[.int .u32 ix] 23)).alloc (.cells Tryz.zeroCells31 31)).alloc (.cells #[.string ⟨#[]⟩] 9)).alloc (.cells Tryz.zeroCells31 31)) enterBeginCl (fun x hx => by simp at hx ⊢; omega) (fun u hu => by
  refine ((Begin_cn w.heap.size (w.heap.size + 1) (w.heap.size + 1 + 1) (w.heap.size + 1 + 1 + 1) (w.heap.size + 1 + 1 + 1 + 1) (w.heap.size + 1 + 1 + 1 + 1 + 1 + 1) (w.heap.size + 1 + 1 + 1 + 1 + 1 + 1 + 1) O P E T ix X u (hE.kept hu) (g0.kept hu) (g1.kept hu) (g2.kept hu) (g3.kept hu) (g4.kept hu) hst).mono ?_)
  rintro e v ⟨rfl, hb⟩
  exact ⟨touch_le hb, X, .inr rfl, rfl, (g6.kept hu).kept hb, (g7.kept hu).kept hb⟩)
 have hmf : ∀ (fn : Fn) (first cap : Array Value) (w : World), (Instr.makeFunc fn first cap).run Tryz.prog w = .ok (.func fn first cap) w := fun _ _ _ _ => rfl
 go_enter Tryz.func9, Tryz.ntmps9
 go_wp2_with fail
 refine hAt.mono ?_
 rintro e v0 ⟨x, vc, rfl, ⟨hx, p0, p1⟩, tT, hb⟩
 have hx' := hx.symm
 clear hx
 subst hx'
 clear hAt hmf
 replace p0 := p0.block (hb.block (w.heap.size + 1 + 1 + 1 + 1 + 1 + 1) (by omega))
 replace p1 := p1.block (hb.block (w.heap.size + 1 + 1 + 1 + 1 + 1 + 1 + 1) (by omega))
 replace g5 := g5.block (tT.block (w.heap.size + 1 + 1 + 1 + 1 + 1) g5.lt (by omega))
 replace hB : Below w.heap.size w v0 := ⟨tT.os.trans hB.os, tT.tape.trans hB.tape, tT.output.trans hB.output, Nat.le_trans hB.size tT.size, fun k hk => (tT.block k (by have := hB.size; omega) (by omega)).trans (hB.block k hk)⟩
 clear tT hb hss g0 g1 g2 g3 g4 g6 g7 hE
 go_wp2_with fail
 have HL0 : Hid (∀ u, Touch (fun x => x = (w.heap.size + 1 + 1 + 1 + 1 + 1)) v0 u → CAt u (w.heap.size + 1 + 1 + 1 + 1 + 1 + 1) 9 (.string ⟨#[]⟩)) := Hid.mk (fun u hu => p0.block (hu.block (w.heap.size + 1 + 1 + 1 + 1 + 1 + 1) p0.lt (by omega)))
 have HL1 : Hid (∀ u, Touch (fun x => x = (w.heap.size + 1 + 1 + 1 + 1 + 1)) v0 u → SAt u (w.heap.size + 1 + 1 + 1 + 1 + 1 + 1 + 1) 31 162 hanZ) := Hid.mk (fun u hu => p1.block (hu.block (w.heap.size + 1 + 1 + 1 + 1 + 1 + 1 + 1) p1.lt (by omega)))
 refine wp_region3 (Touch (fun x => x = (w.heap.size + 1 + 1 + 1 + 1 + 1)) v0) v0.heap.size
   [((w.heap.size + 1 + 1 + 1 + 1 + 1), once (SC 162 hanZ) 31 4 (SC 162 hanZ))]
   [kv (.string ⟨#[]⟩), kv (.agg (SC 162 hanZ)), kv (.int .i64 X), kv (.string ⟨#[]⟩), .val fun _ => True, kv (.int .i64 X)]
   [.none, .none, .none, .none, .base 0 1, .none]
   [some 18, some 19, some 20, some 10, none, some 12]
   [(13, .pointer (some ⟨(w.heap.size + 1 + 1 + 1 + 1 + 1 + 1), 0, none⟩)), (14, .pointer (some ⟨(w.heap.size + 1 + 1 + 1 + 1 + 1 + 1 + 1), 0, none⟩)), (15, .int .i64 X), (11, .pointer (some ⟨(w.heap.size + 1 + 1 + 1 + 1 + 1), 0, none⟩))]
   [[], [], [], [.slot 0], [.slot 1, .base 0 0], [.slot 2]]
   [.base 0 1, .slot 3, .slot 5] [18, 19, 20, 10, 12]
   rfl (by kernel_rfl) ⟨rfl, rfl, rfl, rfl, trivial⟩ (touch_le (Below.refl _ v0).drew) (Nat.le_refl _) ⟨⟨g5.lt, obIn g5⟩, trivial⟩ ⟨trivial, trivial⟩ (touch_GT (fun k hk => by simpa using hk))
   ⟨
    (fun Q aq ww own hS hBg fr kn => .inl ⟨trivial, fun K hK => wp_value (exec_ld rfl fr.1 (load_str (HL0.out ww hS).at)) (hK _ _ ⟨Touch.refl _ _, rfl⟩)⟩),
    (fun Q aq ww own hS hBg fr kn => .inl ⟨trivial, fun K hK => wp_value (look_st rfl isHand (HL1.out ww hS) fr.2.1) (hK _ _ ⟨Touch.refl _ _, rfl⟩)⟩),
    (fun Q aq ww own hS hBg fr kn => .inl ⟨trivial, fun K hK => wp_value (exec_move rfl fr.2.2.1) (hK _ _ ⟨Touch.refl _ _, rfl⟩)⟩),
    (fun Q aq ww own hS hBg fr kn => .inl ⟨trivial, fun K hK => wp_value (exec_assign rfl kn.1) (hK _ _ ⟨Touch.refl _ _, rfl⟩)⟩),
    (fun Q aq ww own hS hBg fr kn => .inl ⟨trivial, fun K hK => act_st7 rfl isHand (hanV_one _ _ _ _ _ _ _) fr.2.2.2.1 kn.1 (obAt kn.2.1) (fun w2 hg ho => hK _ _ ⟨⟨touch_only ho, obIn hg⟩, trivial⟩)⟩),
    (fun Q aq ww own hS hBg fr kn => .inl ⟨trivial, fun K hK => wp_value (exec_assign rfl kn.1) (hK _ _ ⟨Touch.refl _ _, rfl⟩)⟩),
    trivial⟩ ?_
 intro vs own v9 hT1 hsz kn inj
 clear inj hsz
 have q0 : SAt v9 (w.heap.size + 1 + 1 + 1 + 1 + 1) 31 162 hanZ := obAt kn.1
 have e10 : vs 10 = _ := kn.2.1
 have e12 : vs 12 = _ := kn.2.2.1
 clear kn HL0 HL1
 replace hB : Below w.heap.size w v9 := ⟨hT1.os.trans hB.os, hT1.tape.trans hB.tape, hT1.output.trans hB.output, Nat.le_trans hB.size hT1.size, fun k hk => (hT1.block k (by have := hB.size; omega) (by omega)).trans (hB.block k hk)⟩
 simp only [putAll, Act.put, List.setIfInBounds_toArray, List.set_cons_zero, List.set_cons_succ, e10, e12]
 go_wp2_with fail
 exact bodyPost_ret (v := .tuple #[.string ⟨#[]⟩, .agg (SC 162 hanZ), .int .i64 X]) (res_tct Tryz.results9 isHand q0 (by rfl) (by rfl) (by rfl)) rfl ⟨rfl, hB⟩
theorem enterAcceptCl (args : Array Value) (w : World) : (callFunc 45 args).run Tryz.prog w = .ok (.enter 45 args) w := by kernel_rfl
set_option maxHeartbeats 1600000 in
theorem Accept_cl (b0 b1 b2 b3 : Nat) (O : Nat → Int) (m : ByteArray) (V : Nat → Value) (T : Nat → Int) (u : World) (hE : Env u) (c0 : ArrAt u b0 .u8 22 32 O) (c1 : CAt u b1 9 (.string m)) (c2 : SAt u b2 31 162 hanZ) (c3 : ArrAt u b3 .u8 26 12 (fun _ => 0)) (h1V : ∀ i, (V i).oneCell' = true) (hne : b2 ≠ b3) 
  (hst : ∀ u, Env u → Calls Tryz.prog 46 #[.agg (WA .u8 32 O), .string m] u fun e w' => e = .returned (.tuple #[.agg (SC 162 V), .agg (WA .u8 12 T)]) ∧ Below u.heap.size u w') :
  Calls Tryz.prog 45 #[.pointer (some ⟨b0, 0, none⟩), .pointer (some ⟨b1, 0, none⟩), .pointer (some ⟨b2, 0, none⟩), .pointer (some ⟨b3, 0, none⟩)] u fun e w' => e = .returned (.tuple #[]) ∧ SAt w' b2 31 162 V ∧ ArrAt w' b3 .u8 26 12 T ∧ Touch (fun x => x = b2 ∨ x = b3) u w' := by
 have touch_or0 : ∀ {p q : World}, Only b2 p q → Touch (fun x => x = b2 ∨ x = b3) p q := fun o => ⟨o.os, o.tape, o.output, by rw [o.size]; exact Nat.le_refl _, fun k _ hn => o.block k (fun h => hn (by simp [h]))⟩
 have touch_or1 : ∀ {p q : World}, Only b3 p q → Touch (fun x => x = b2 ∨ x = b3) p q := fun o => ⟨o.os, o.tape, o.output, by rw [o.size]; exact Nat.le_refl _, fun k _ hn => o.block k (fun h => hn (by simp [h]))⟩
 have e1 := c1.at
 go_enter Tryz.func45, Tryz.ntmps45
 go_wp2_with (first | (refine ld_arr isArr32 c0 (by rfl) ?_))
 refine (hst _ hE).mono ?_
 rintro x v1 ⟨rfl, hb⟩
 replace c2 := c2.kept hb
 replace c3 := c3.kept hb
 have ht : Touch (fun x => x = b2 ∨ x = b3) u v1 := touch_le hb
 clear hb
 go_wp2_with (refine st_st isHand h1V c2 (by rfl) (by rfl) ?_; intro y0 d00 o0; refine Hid.out ?_)
 have d0 := Hid.mk d00
 replace c3 := c3.only o0 (Ne.symm hne)
 replace ht := touch_tr ht (touch_or0 o0)
 clear d00 o0
 refine Hid.mk ?_
 go_wp2_with (refine st_arr isArr12 c3 (by rfl) (by rfl) ?_; intro y1 d10 o1; refine Hid.out ?_)
 have d1 := Hid.mk d10
 replace d0 := Hid.mk (d0.out.only o1 hne)
 replace ht := touch_tr ht (touch_or1 o1)
 clear d10 o1
 refine Hid.mk ?_
 go_wp2_with fail
 exact bodyPost_end (results_none rfl _ _ _) rfl ⟨rfl, d0.out, d1.out, ht⟩
set_option maxHeartbeats 1600000 in
theorem Accept_cn (b0 b1 b2 b3 : Nat) (O : Nat → Int) (m : ByteArray) (X : Int) (u : World) (hE : Env u) (c0 : ArrAt u b0 .u8 22 32 O) (c1 : CAt u b1 9 (.string m))
  (hst : ∀ u, Env u → Calls Tryz.prog 46 #[.agg (WA .u8 32 O), .string m] u fun e w' => e = gup X ∧ Below u.heap.size u w') :
  Calls Tryz.prog 45 #[.pointer (some ⟨b0, 0, none⟩), .pointer (some ⟨b1, 0, none⟩), .pointer (some ⟨b2, 0, none⟩), .pointer (some ⟨b3, 0, none⟩)] u fun e w' => e = gup X ∧ Below u.heap.size u w' := by
 have e1 := c1.at
 go_enter Tryz.func45, Tryz.ntmps45
 go_wp2_with (first | (refine ld_arr isArr32 c0 (by rfl) ?_))
 refine (hst _ hE).mono ?_
 rintro x v1 ⟨rfl, hb⟩
 exact ⟨rfl, rfl, hb⟩
set_option linter.unusedVariables false in
set_option maxHeartbeats 4000000 in
set_option maxRecDepth 100000 in
theorem Accept_ok (O : Nat → Int) (m : ByteArray) (V : Nat → Value) (T : Nat → Int) (w : World) (hE : Env w) (h1V : ∀ i, (V i).oneCell' = true)
  (hst : ∀ u, Env u → Calls Tryz.prog 46 #[.agg (WA .u8 32 O), .string m] u fun e w' => e = .returned (.tuple #[.agg (SC 162 V), .agg (WA .u8 12 T)]) ∧ Below u.heap.size u w') :
  Calls Tryz.prog 11 #[.agg (WA .u8 32 O), .string m] w fun e w' => e = .returned (.tuple #[.agg (SC 162 V), .agg (WA .u8 12 T), .int .i64 0]) ∧ Below w.heap.size w w' := by
 have hB : Below w.heap.size w ((((((w.alloc (.cells (WA .u8 32 O) 22)).alloc (.cells #[.string m] 9)).alloc (.cells Tryz.zeroCells31 31)).alloc (.cells (WA .u8 12 (fun _ => 0)) 26)).alloc (.cells Tryz.zeroCells31 31)).alloc (.cells (WA .u8 12 (fun _ => 0)) 26)) := ((((((Below.refl _ w).alloc (by simp) _).alloc (by simp) _).alloc (by simp; omega) _).alloc (by simp; omega) _).alloc (by simp; omega) _).alloc (by simp; omega) _
 have g0 : ArrAt ((((((w.alloc (.cells (WA .u8 32 O) 22)).alloc (.cells #[.string m] 9)).alloc (.cells Tryz.zeroCells31 31)).alloc (.cells (WA .u8 12 (fun _ => 0)) 26)).alloc (.cells Tryz.zeroCells31 31)).alloc (.cells (WA .u8 12 (fun _ => 0)) 26)) w.heap.size .u8 22 32 O := heap_keep_alloc _ (heap_keep_alloc _ (heap_keep_alloc _ (heap_keep_alloc _ (heap_keep_alloc _ (heap_at_alloc w _ w.heap.size (by simp))))))
 have g1 : CAt ((((((w.alloc (.cells (WA .u8 32 O) 22)).alloc (.cells #[.string m] 9)).alloc (.cells Tryz.zeroCells31 31)).alloc (.cells (WA .u8 12 (fun _ => 0)) 26)).alloc (.cells Tryz.zeroCells31 31)).alloc (.cells (WA .u8 12 (fun _ => 0)) 26)) (w.heap.size + 1) 9 (.string m) := heap_keep_alloc _ (heap_keep_alloc _ (heap_keep_alloc _ (heap_keep_alloc _ (heap_at_alloc (w.alloc (.cells (WA .u8 32 O) 22)) _ (w.heap.size + 1) (by simp)))))
 have g2 : SAt ((((((w.alloc (.cells (WA .u8 32 O) 22)).alloc (.cells #[.string m] 9)).alloc (.cells Tryz.zeroCells31 31)).alloc (.cells (WA .u8 12 (fun _ => 0)) 26)).alloc (.cells Tryz.zeroCells31 31)).alloc (.cells (WA .u8 12 (fun _ => 0)) 26)) (w.heap.size + 1 + 1) 31 162 hanZ := by
  have h : (((((((w.alloc (.cells (WA .u8 32 O) 22)).alloc (.cells #[.string m] 9)).alloc (.cells Tryz.zeroCells31 31)).alloc (.cells (WA .u8 12 (fun _ => 0)) 26)).alloc (.cells Tryz.zeroCells31 31)).alloc (.cells (WA .u8 12 (fun _ => 0)) 26))).heap[(w.heap.size + 1 + 1)]? = some (.cells Tryz.zeroCells31 31) := heap_keep_alloc _ (heap_keep_alloc _ (heap_keep_alloc _ (heap_at_alloc ((w.alloc (.cells (WA .u8 32 O) 22)).alloc (.cells #[.string m] 9)) _ (w.heap.size + 1 + 1) (by simp))))
  unfold SAt
  rw [← zeroHand]
  exact h
 have g3 : ArrAt ((((((w.alloc (.cells (WA .u8 32 O) 22)).alloc (.cells #[.string m] 9)).alloc (.cells Tryz.zeroCells31 31)).alloc (.cells (WA .u8 12 (fun _ => 0)) 26)).alloc (.cells Tryz.zeroCells31 31)).alloc (.cells (WA .u8 12 (fun _ => 0)) 26)) (w.heap.size + 1 + 1 + 1) .u8 26 12 (fun _ => 0) := heap_keep_alloc _ (heap_keep_alloc _ (heap_at_alloc (((w.alloc (.cells (WA .u8 32 O) 22)).alloc (.cells #[.string m] 9)).alloc (.cells Tryz.zeroCells31 31)) _ (w.heap.size + 1 + 1 + 1) (by simp)))
 have g4 : SAt ((((((w.alloc (.cells (WA .u8 32 O) 22)).alloc (.cells #[.string m] 9)).alloc (.cells Tryz.zeroCells31 31)).alloc (.cells (WA .u8 12 (fun _ => 0)) 26)).alloc (.cells Tryz.zeroCells31 31)).alloc (.cells (WA .u8 12 (fun _ => 0)) 26)) (w.heap.size + 1 + 1 + 1 + 1) 31 162 hanZ := by
  have h : (((((((w.alloc (.cells (WA .u8 32 O) 22)).alloc (.cells #[.string m] 9)).alloc (.cells Tryz.zeroCells31 31)).alloc (.cells (WA .u8 12 (fun _ => 0)) 26)).alloc (.cells Tryz.zeroCells31 31)).alloc (.cells (WA .u8 12 (fun _ => 0)) 26))).heap[(w.heap.size + 1 + 1 + 1 + 1)]? = some (.cells Tryz.zeroCells31 31) := heap_keep_alloc _ (heap_at_alloc ((((w.alloc (.cells (WA .u8 32 O) 22)).alloc (.cells #[.string m] 9)).alloc (.cells Tryz.zeroCells31 31)).alloc (.cells (WA .u8 12 (fun _ => 0)) 26)) _ (w.heap.size + 1 + 1 + 1 + 1) (by simp))
  unfold SAt
  rw [← zeroHand]
  exact h
 have g5 : ArrAt ((((((w.alloc (.cells (WA .u8 32 O) 22)).alloc (.cells #[.string m] 9)).alloc (.cells Tryz.zeroCells31 31)).alloc (.cells (WA .u8 12 (fun _ => 0)) 26)).alloc (.cells Tryz.zeroCells31 31)).alloc (.cells (WA .u8 12 (fun _ => 0)) 26)) (w.heap.size + 1 + 1 + 1 + 1 + 1) .u8 26 12 (fun _ => 0) := heap_at_alloc (((((w.alloc (.cells (WA .u8 32 O) 22)).alloc (.cells #[.string m] 9)).alloc (.cells Tryz.zeroCells31 31)).alloc (.cells (WA .u8 12 (fun _ => 0)) 26)).alloc (.cells Tryz.zeroCells31 31)) _ (w.heap.size + 1 + 1 + 1 + 1 + 1) (by simp)
 replace hE := hE.kept hB
 have hss : (((((((w.alloc (.cells (WA .u8 32 O) 22)).alloc (.cells #[.string m] 9)).alloc (.cells Tryz.zeroCells31 31)).alloc (.cells (WA .u8 12 (fun _ => 0)) 26)).alloc (.cells Tryz.zeroCells31 31)).alloc (.cells (WA .u8 12 (fun _ => 0)) 26))).heap.size = w.heap.size + 1 + 1 + 1 + 1 + 1 + 1 := by simp
 have hAt := attempt_run 45 #[.pointer (some ⟨w.heap.size, 0, none⟩), .pointer (some ⟨(w.heap.size + 1), 0, none⟩), .pointer (some ⟨(w.heap.size + 1 + 1 + 1 + 1), 0, none⟩), .pointer (some ⟨(w.heap.size + 1 + 1 + 1 + 1 + 1), 0, none⟩)] (fun x => x = (w.heap.size + 1 + 1 + 1 + 1) ∨ x = (w.heap.size + 1 + 1 + 1 + 1 + 1)) (fun x v => x = 0 ∧ SAt v (w.heap.size + 1 + 1 + 1 + 1) 31 162 V ∧ ArrAt v (w.heap.size + 1 + 1 + 1 + 1 + 1) .u8 26 12 T) ((((((w.alloc (.cells (WA .u8 32 O) 22)).alloc (.cells #[.string m] 9)).alloc (.cells Tryz.zeroCells31 31)).alloc (.cells (WA .u8 12 (fun _ => 0)) 26)).alloc (.cells Tryz.zeroCells31 31)).alloc (.cells (WA .u8 12 (fun _ => 0)) 26)) enterAcceptCl (fun x hx => by simp at hx ⊢; omega) (fun u hu => by
  refine ((Accept_cl w.heap.size (w.heap.size + 1) (w.heap.size + 1 + 1 + 1 + 1) (w.heap.size + 1 + 1 + 1 + 1 + 1) O m V T u (hE.kept hu) (g0.kept hu) (g1.kept hu) (g4.kept hu) (g5.kept hu) h1V (by omega) hst).mono ?_)
  rintro e v ⟨rfl, p0, p1, ht⟩
  exact ⟨ht, 0, .inl ⟨rfl, rfl⟩, rfl, p0, p1⟩)
 have hmf : ∀ (fn : Fn) (first cap : Array Value) (w : World), (Instr.makeFunc fn first cap).run Tryz.prog w = .ok (.func fn first cap) w := fun _ _ _ _ => rfl
 go_enter Tryz.func11, Tryz.ntmps11
 go_wp2_with fail
 refine hAt.mono ?_
 rintro e v0 ⟨x, vc, rfl, ⟨hx, p0, p1⟩, tT, hb⟩
 have hx' := hx.symm
 clear hx
 subst hx'
 clear hAt hmf
 replace p0 := p0.block (hb.block (w.heap.size + 1 + 1 + 1 + 1) (by omega))
 replace p1 := p1.block (hb.block (w.heap.size + 1 + 1 + 1 + 1 + 1) (by omega))
 replace g2 := g2.block (tT.block (w.heap.size + 1 + 1) g2.lt (by omega))
 replace g3 := g3.block (tT.block (w.heap.size + 1 + 1 + 1) g3.lt (by omega))
 replace hB : Below w.heap.size w v0 := ⟨tT.os.trans hB.os, tT.tape.trans hB.tape, tT.output.trans hB.output, Nat.le_trans hB.size tT.size, fun k hk => (tT.block k (by have := hB.size; omega) (by omega)).trans (hB.block k hk)⟩
 clear tT hb hss g0 g1 g4 g5 hE
 go_wp2_with fail
 have HL0 : Hid (∀ u, Touch (fun x => x = (w.heap.size + 1 + 1) ∨ x = (w.heap.size + 1 + 1 + 1)) v0 u → SAt u (w.heap.size + 1 + 1 + 1 + 1) 31 162 V) := Hid.mk (fun u hu => p0.block (hu.block (w.heap.size + 1 + 1 + 1 + 1) p0.lt (by omega)))
 have HL1 : Hid (∀ u, Touch (fun x => x = (w.heap.size + 1 + 1) ∨ x = (w.heap.size + 1 + 1 + 1)) v0 u → ArrAt u (w.heap.size + 1 + 1 + 1 + 1 + 1) .u8 26 12 T) := Hid.mk (fun u hu => p1.block (hu.block (w.heap.size + 1 + 1 + 1 + 1 + 1) p1.lt (by omega)))
 refine wp_region3 (Touch (fun x => x = (w.heap.size + 1 + 1) ∨ x = (w.heap.size + 1 + 1 + 1)) v0) v0.heap.size
   [((w.heap.size + 1 + 1), once (SC 162 hanZ) 31 3 (SC 162 V)), ((w.heap.size + 1 + 1 + 1), once (WA .u8 12 (fun _ => 0)) 26 4 (WA .u8 12 T))]
   [kv (.agg (SC 162 V)), kv (.agg (WA .u8 12 T)), kv (.int .i64 0), .val fun _ => True, .val fun _ => True, kv (.int .i64 0)]
   [.none, .none, .none, .base 0 1, .base 1 1, .none]
   [some 12, some 13, some 14, none, none, some 6]
   [(7, .pointer (some ⟨(w.heap.size + 1 + 1 + 1 + 1), 0, none⟩)), (8, .pointer (some ⟨(w.heap.size + 1 + 1 + 1 + 1 + 1), 0, none⟩)), (9, .int .i64 0), (4, .pointer (some ⟨(w.heap.size + 1 + 1), 0, none⟩)), (5, .pointer (some ⟨(w.heap.size + 1 + 1 + 1), 0, none⟩))]
   [[], [], [], [.slot 0, .base 0 0], [.slot 1, .base 1 0], [.slot 2]]
   [.base 0 1, .base 1 1, .slot 5] [12, 13, 14, 6]
   rfl (by kernel_rfl) ⟨rfl, rfl, rfl, rfl, rfl, trivial⟩ (touch_le (Below.refl _ v0).drew) (Nat.le_refl _) ⟨⟨g2.lt, obIn g2⟩, ⟨g3.lt, obIn g3⟩, trivial⟩ ⟨⟨(show ((w.heap.size + 1 + 1) : Nat) ≠ (w.heap.size + 1 + 1 + 1) from by omega), trivial⟩, trivial, trivial⟩ (touch_GT (fun k hk => by simpa using hk))
   ⟨
    (fun Q aq ww own hS hBg fr kn => .inl ⟨trivial, fun K hK => wp_value (look_st rfl isHand (HL0.out ww hS) fr.1) (hK _ _ ⟨Touch.refl _ _, rfl⟩)⟩),
    (fun Q aq ww own hS hBg fr kn => .inl ⟨trivial, fun K hK => wp_value (look_arr rfl isArr12 (HL1.out ww hS) fr.2.1) (hK _ _ ⟨Touch.refl _ _, rfl⟩)⟩),
    (fun Q aq ww own hS hBg fr kn => .inl ⟨trivial, fun K hK => wp_value (exec_move rfl fr.2.2.1) (hK _ _ ⟨Touch.refl _ _, rfl⟩)⟩),
    (fun Q aq ww own hS hBg fr kn => .inl ⟨trivial, fun K hK => act_st7 rfl isHand h1V fr.2.2.2.1 kn.1 (obAt kn.2.1) (fun w2 hg ho => hK _ _ ⟨⟨touch_only ho, obIn hg⟩, trivial⟩)⟩),
    (fun Q aq ww own hS hBg fr kn => .inl ⟨trivial, fun K hK => act_arr rfl isArr12 fr.2.2.2.2.1 kn.1 (obAt kn.2.1) (fun w2 hg ho => hK _ _ ⟨⟨touch_only ho, obIn hg⟩, trivial⟩)⟩),
    (fun Q aq ww own hS hBg fr kn => .inl ⟨trivial, fun K hK => wp_value (exec_assign rfl kn.1) (hK _ _ ⟨Touch.refl _ _, rfl⟩)⟩),
    trivial⟩ ?_
 intro vs own v9 hT1 hsz kn inj
 clear inj hsz
 have q0 : SAt v9 (w.heap.size + 1 + 1) 31 162 V := obAt kn.1
 have q1 : ArrAt v9 (w.heap.size + 1 + 1 + 1) .u8 26 12 T := obAt kn.2.1
 have e6 : vs 6 = _ := kn.2.2.1
 clear kn HL0 HL1
 replace hB : Below w.heap.size w v9 := ⟨hT1.os.trans hB.os, hT1.tape.trans hB.tape, hT1.output.trans hB.output, Nat.le_trans hB.size hT1.size, fun k hk => (hT1.block k (by have := hB.size; omega) (by omega)).trans (hB.block k hk)⟩
 simp only [putAll, Act.put, List.setIfInBounds_toArray, List.set_cons_zero, List.set_cons_succ, e6]
 go_wp2_with fail
 exact bodyPost_ret (v := .tuple #[.agg (SC 162 V), .agg (WA .u8 12 T), .int .i64 0]) (res_sat Tryz.results11 isHand isArr12 q0 q1 (by rfl) (by rfl) (by rfl)) rfl ⟨rfl, hB⟩
set_option linter.unusedVariables false in
set_option maxHeartbeats 4000000 in
set_option maxRecDepth 100000 in
theorem Accept_no (O : Nat → Int) (m : ByteArray) (X : Int) (w : World) (hE : Env w) 
  (hst : ∀ u, Env u → Calls Tryz.prog 46 #[.agg (WA .u8 32 O), .string m] u fun e w' => e = gup X ∧ Below u.heap.size u w') :
  Calls Tryz.prog 11 #[.agg (WA .u8 32 O), .string m] w fun e w' => e = .returned (.tuple #[.agg (SC 162 hanZ), .agg (WA .u8 12 (fun _ => 0)), .int .i64 X]) ∧ Below w.heap.size w w' := by
 have hB : Below w.heap.size w ((((((w.alloc (.cells (WA .u8 32 O) 22)).alloc (.cells #[.string m] 9)).alloc (.cells Tryz.zeroCells31 31)).alloc (.cells (WA .u8 12 (fun _ => 0)) 26)).alloc (.cells Tryz.zeroCells31 31)).alloc (.cells (WA .u8 12 (fun _ => 0)) 26)) := ((((((Below.refl _ w).alloc (by simp) _).alloc (by simp) _).alloc (by simp; omega) _).alloc (by simp; omega) _).alloc (by simp; omega) _).alloc (by simp; omega) _
 have g0 : ArrAt ((((((w.alloc (.cells (WA .u8 32 O) 22)).alloc (.cells #[.string m] 9)).alloc (.cells Tryz.zeroCells31 31)).alloc (.cells (WA .u8 12 (fun _ => 0)) 26)).alloc (.cells Tryz.zeroCells31 31)).alloc (.cells (WA .u8 12 (fun _ => 0)) 26)) w.heap.size .u8 22 32 O := heap_keep_alloc _ (heap_keep_alloc _ (heap_keep_alloc _ (heap_keep_alloc _ (heap_keep_alloc _ (heap_at_alloc w _ w.heap.size (by simp))))))
 have g1 : CAt ((((((w.alloc (.cells (WA .u8 32 O) 22)).alloc (.cells #[.string m] 9)).alloc (.cells Tryz.zeroCells31 31)).alloc (.cells (WA .u8 12 (fun _ => 0)) 26)).alloc (.cells Tryz.zeroCells31 31)).alloc (.cells (WA .u8 12 (fun _ => 0)) 26)) (w.heap.size + 1) 9 (.string m) := heap_keep_alloc _ (heap_keep_alloc _ (heap_keep_alloc _ (heap_keep_alloc _ (heap_at_alloc (w.alloc (.cells (WA .u8 32 O) 22)) _ (w.heap.size + 1) (by simp)))))
 have g2 : SAt ((((((w.alloc (.cells (WA .u8 32 O) 22)).alloc (.cells #[.string m] 9)).alloc (.cells Tryz.zeroCells31 31)).alloc (.cells (WA .u8 12 (fun _ => 0)) 26)).alloc (.cells Tryz.zeroCells31 31)).alloc (.cells (WA .u8 12 (fun _ => 0)) 26)) (w.heap.size + 1 + 1) 31 162 hanZ := by
  have h : (((((((w.alloc (.cells (WA .u8 32 O) 22)).alloc (.cells #[.string m] 9)).alloc (.cells Tryz.zeroCells31 31)).alloc (.cells (WA .u8 12 (fun _ => 0)) 26)).alloc (.cells Tryz.zeroCells31 31)).alloc (.cells (WA .u8 12 (fun _ => 0)) 26))).heap[(w.heap.size + 1 + 1)]? = some (.cells Tryz.zeroCells31 31) := heap_keep_alloc _ (heap_keep_alloc _ (heap_keep_alloc _ (heap_at_alloc ((w.alloc (.cells (WA .u8 32 O) 22)).alloc (.cells #[.string m] 9)) _ (w.heap.size + 1 + 1) (by simp))))
  unfold SAt
  rw [← zeroHand]
  exact h
 have g3 : ArrAt ((((((w.alloc (.cells (WA .u8 32 O) 22)).alloc (.cells #[.string m] 9)).alloc (.cells Tryz.zeroCells31 31)).alloc (.cells (WA .u8 12 (fun _ => 0)) 26)).alloc (.cells Tryz.zeroCells31 31)).alloc (.cells (WA .u8 12 (fun _ => 0)) 26)) (w.heap.size + 1 + 1 + 1) .u8 26 12 (fun _ => 0) := heap_keep_alloc _ (heap_keep_alloc _ (heap_at_alloc (((w.alloc (.cells (WA .u8 32 O) 22)).alloc (.cells #[.string m] 9)).alloc (.cells Tryz.zeroCells31 31)) _ (w.heap.size + 1 + 1 + 1) (by simp)))
 have g4 : SAt ((((((w.alloc (.cells (WA .u8 32 O) 22)).alloc (.cells #[.string m] 9)).alloc (.cells Tryz.zeroCells31 31)).alloc (.cells (WA .u8 12 (fun _ => 0)) 26)).alloc (.cells Tryz.zeroCells31 31)).alloc (.cells (WA .u8 12 (fun _ => 0)) 26)) (w.heap.size + 1 + 1 + 1 + 1) 31 162 hanZ := by
  have h : (((((((w.alloc (.cells (WA .u8 32 O) 22)).alloc (.cells #[.string m] 9)).alloc (.cells Tryz.zeroCells31 31)).alloc (.cells (WA .u8 12 (fun _ => 0)) 26)).alloc (.cells Tryz.zeroCells31 31)).alloc (.cells (WA .u8 12 (fun _ => 0)) 26))).heap[(w.heap.size + 1 + 1 + 1 + 1)]? = some (.cells Tryz.zeroCells31 31) := heap_keep_alloc _ (heap_at_alloc ((((w.alloc (.cells (WA .u8 32 O) 22)).alloc (.cells #[.string m] 9)).alloc (.cells Tryz.zeroCells31 31)).alloc (.cells (WA .u8 12 (fun _ => 0)) 26)) _ (w.heap.size + 1 + 1 + 1 + 1) (by simp))
  unfold SAt
  rw [← zeroHand]
  exact h
 have g5 : ArrAt ((((((w.alloc (.cells (WA .u8 32 O) 22)).alloc (.cells #[.string m] 9)).alloc (.cells Tryz.zeroCells31 31)).alloc (.cells (WA .u8 12 (fun _ => 0)) 26)).alloc (.cells Tryz.zeroCells31 31)).alloc (.cells (WA .u8 12 (fun _ => 0)) 26)) (w.heap.size + 1 + 1 + 1 + 1 + 1) .u8 26 12 (fun _ => 0) := heap_at_alloc (((((w.alloc (.cells (WA .u8 32 O) 22)).alloc (.cells #[.string m] 9)).alloc (.cells Tryz.zeroCells31 31)).alloc (.cells (WA .u8 12 (fun _ => 0)) 26)).alloc (.cells Tryz.zeroCells31 31)) _ (w.heap.size + 1 + 1 + 1 + 1 + 1) (by simp)
 replace hE := hE.kept hB
 have hss : (((((((w.alloc (.cells (WA .u8 32 O) 22)).alloc (.cells #[.string m] 9)).alloc (.cells Tryz.zeroCells31 31)).alloc (.cells (WA .u8 12 (fun _ => 0)) 26)).alloc (.cells Tryz.zeroCells31 31)).alloc (.cells (WA .u8 12 (fun _ => 0)) 26))).heap.size = w.heap.size + 1 + 1 + 1 + 1 + 1 + 1 := by simp
 have hAt := attempt_run 45 #[.pointer (some ⟨w.heap.size, 0, none⟩), .pointer (some ⟨(w.heap.size + 1), 0, none⟩), .pointer (some ⟨(w.heap.size + 1 + 1 + 1 + 1), 0, none⟩), .pointer (some ⟨(w.heap.size + 1 + 1 + 1 + 1 + 1), 0, none⟩)] (fun x => x = (w.heap.size + 1 + 1 + 1 + 1) ∨ x = (w.heap.size + 1 + 1 + 1 + 1 + 1)) (fun x v => x = X ∧ SAt v (w.heap.size + 1 + 1 + 1 + 1) 31 162 hanZ ∧ ArrAt v (w.heap.size + 1 + 1 + 1 + 1 + 1) .u8 26 12 (fun _ => 0)) ((((((w.alloc (.cells (WA .u8 32 O) 22)).alloc (.cells #[.string m] 9)).alloc (.cells Tryz.zeroCells31 31)).alloc (.cells (WA .u8 12 (fun _ => 0)) 26)).alloc (.cells Tryz.zeroCells31 31)).alloc (.cells (WA .u8 12 (fun _ => 0)) 26)) enterAcceptCl (fun x hx => by simp at hx ⊢; omega) (fun u hu => by
  refine ((Accept_cn w.heap.size (w.heap.size + 1) (w.heap.size + 1 + 1 + 1 + 1) (w.heap.size + 1 + 1 + 1 + 1 + 1) O m X u (hE.kept hu) (g0.kept hu) (g1.kept hu) hst).mono ?_)
  rintro e v ⟨rfl, hb⟩
  exact ⟨touch_le hb, X, .inr rfl, rfl, (g4.kept hu).kept hb, (g5.kept hu).kept hb⟩)
 have hmf : ∀ (fn : Fn) (first cap : Array Value) (w : World), (Instr.makeFunc fn first cap).run Tryz.prog w = .ok (.func fn first cap) w := fun _ _ _ _ => rfl
 go_enter Tryz.func11, Tryz.ntmps11
 go_wp2_with fail
 refine hAt.mono ?_
 rintro e v0 ⟨x, vc, rfl, ⟨hx, p0, p1⟩, tT, hb⟩
 have hx' := hx.symm
 clear hx
 subst hx'
 clear hAt hmf
 replace p0 := p0.block (hb.block (w.heap.size + 1 + 1 + 1 + 1) (by omega))
 replace p1 := p1.block (hb.block (w.heap.size + 1 + 1 + 1 + 1 + 1) (by omega))
 replace g2 := g2.block (tT.block (w.heap.size + 1 + 1) g2.lt (by omega))
 replace g3 := g3.block (tT.block (w.heap.size + 1 + 1 + 1) g3.lt (by omega))
 replace hB : Below w.heap.size w v0 := ⟨tT.os.trans hB.os, tT.tape.trans hB.tape, tT.output.trans hB.output, Nat.le_trans hB.size tT.size, fun k hk => (tT.block k (by have := hB.size; omega) (by omega)).trans (hB.block k hk)⟩
 clear tT hb hss g0 g1 g4 g5 hE
 go_wp2_with fail
 have HL0 : Hid (∀ u, Touch (fun x => x = (w.heap.size + 1 + 1) ∨ x = (w.heap.size + 1 + 1 + 1)) v0 u → SAt u (w.heap.size + 1 + 1 + 1 + 1) 31 162 hanZ) := Hid.mk (fun u hu => p0.block (hu.block (w.heap.size + 1 + 1 + 1 + 1) p0.lt (by omega)))
 have HL1 : Hid (∀ u, Touch (fun x => x = (w.heap.size + 1 + 1) ∨ x = (w.heap.size + 1 + 1 + 1)) v0 u → ArrAt u (w.heap.size + 1 + 1 + 1 + 1 + 1) .u8 26 12 (fun _ => 0)) := Hid.mk (fun u hu => p1.block (hu.block (w.heap.size + 1 + 1 + 1 + 1 + 1) p1.lt (by omega)))
 refine wp_region3 (Touch (fun x => x = (w.heap.size + 1 + 1) ∨ x = (w.heap.size + 1 + 1 + 1)) v0) v0.heap.size
   [((w.heap.size + 1 + 1), once (SC 162 hanZ) 31 3 (SC 162 hanZ)), ((w.heap.size + 1 + 1 + 1), once (WA .u8 12 (fun _ => 0)) 26 4 (WA .u8 12 (fun _ => 0)))]
   [kv (.agg (SC 162 hanZ)), kv (.agg (WA .u8 12 (fun _ => 0))), kv (.int .i64 X), .val fun _ => True, .val fun _ => True, kv (.int .i64 X)]
   [.none, .none, .none, .base 0 1, .base 1 1, .none]
   [some 12, some 13, some 14, none, none, some 6]
   [(7, .pointer (some ⟨(w.heap.size + 1 + 1 + 1 + 1), 0, none⟩)), (8, .pointer (some ⟨(w.heap.size + 1 + 1 + 1 + 1 + 1), 0, none⟩)), (9, .int .i64 X), (4, .pointer (some ⟨(w.heap.size + 1 + 1), 0, none⟩)), (5, .pointer (some ⟨(w.heap.size + 1 + 1 + 1), 0, none⟩))]
   [[], [], [], [.slot 0, .base 0 0], [.slot 1, .base 1 0], [.slot 2]]
   [.base 0 1, .base 1 1, .slot 5] [12, 13, 14, 6]
   rfl (by kernel_rfl) ⟨rfl, rfl, rfl, rfl, rfl, trivial⟩ (touch_le (Below.refl _ v0).drew) (Nat.le_refl _) ⟨⟨g2.lt, obIn g2⟩, ⟨g3.lt, obIn g3⟩, trivial⟩ ⟨⟨(show ((w.heap.size + 1 + 1) : Nat) ≠ (w.heap.size + 1 + 1 + 1) from by omega), trivial⟩, trivial, trivial⟩ (touch_GT (fun k hk => by simpa using hk))
   ⟨
    (fun Q aq ww own hS hBg fr kn => .inl ⟨trivial, fun K hK => wp_value (look_st rfl isHand (HL0.out ww hS) fr.1) (hK _ _ ⟨Touch.refl _ _, rfl⟩)⟩),
    (fun Q aq ww own hS hBg fr kn => .inl ⟨trivial, fun K hK => wp_value (look_arr rfl isArr12 (HL1.out ww hS) fr.2.1) (hK _ _ ⟨Touch.refl _ _, rfl⟩)⟩),
    (fun Q aq ww own hS hBg fr kn => .inl ⟨trivial, fun K hK => wp_value (exec_move rfl fr.2.2.1) (hK _ _ ⟨Touch.refl _ _, rfl⟩)⟩),
    (fun Q aq ww own hS hBg fr kn => .inl ⟨trivial, fun K hK => act_st7 rfl isHand (hanV_one _ _ _ _ _ _ _) fr.2.2.2.1 kn.1 (obAt kn.2.1) (fun w2 hg ho => hK _ _ ⟨⟨touch_only ho, obIn hg⟩, trivial⟩)⟩),
    (fun Q aq ww own hS hBg fr kn => .inl ⟨trivial, fun K hK => act_arr rfl isArr12 fr.2.2.2.2.1 kn.1 (obAt kn.2.1) (fun w2 hg ho => hK _ _ ⟨⟨touch_only ho, obIn hg⟩, trivial⟩)⟩),
    (fun Q aq ww own hS hBg fr kn => .inl ⟨trivial, fun K hK => wp_value (exec_assign rfl kn.1) (hK _ _ ⟨Touch.refl _ _, rfl⟩)⟩),
    trivial⟩ ?_
 intro vs own v9 hT1 hsz kn inj
 clear inj hsz
 have q0 : SAt v9 (w.heap.size + 1 + 1) 31 162 hanZ := obAt kn.1
 have q1 : ArrAt v9 (w.heap.size + 1 + 1 + 1) .u8 26 12 (fun _ => 0) := obAt kn.2.1
 have e6 : vs 6 = _ := kn.2.2.1
 clear kn HL0 HL1
 replace hB : Below w.heap.size w v9 := ⟨hT1.os.trans hB.os, hT1.tape.trans hB.tape, hT1.output.trans hB.output, Nat.le_trans hB.size hT1.size, fun k hk => (hT1.block k (by have := hB.size; omega) (by omega)).trans (hB.block k hk)⟩
 simp only [putAll, Act.put, List.setIfInBounds_toArray, List.set_cons_zero, List.set_cons_succ, e6]
 go_wp2_with fail
 exact bodyPost_ret (v := .tuple #[.agg (SC 162 hanZ), .agg (WA .u8 12 (fun _ => 0)), .int .i64 X]) (res_sat Tryz.results11 isHand isArr12 q0 q1 (by rfl) (by rfl) (by rfl)) rfl ⟨rfl, hB⟩
end Go.Proofs.YthghcjepdhkfdaaGreatDoor

/-
  Own text. Marks by keys that are alike: the numbers of PolyCuts.
-/
namespace Go.Proofs.YthghcjepdhkfdaaGreatDoor
open Go.RowKit Go.Proofs
set_option maxRecDepth 100000
theorem dval_digN (M : Int) : ∀ n, dval (digN M) n = M % 256 ^ n
 | 0 => by simp [dval]
 | n + 1 => by
  have ih := dval_digN M n
  show dval (digN M) n + 256 ^ n * digN M n = _
  rw [ih, Int.pow_succ]
  unfold digN
  have hp := p256 n
  have h2 : M % (256 ^ n * 256) = M % 256 ^ n + 256 ^ n * (M / 256 ^ n % 256) := by
   have a1 := Int.emod_add_mul_ediv M (256 ^ n)
   have a2 := Int.emod_add_mul_ediv (M / 256 ^ n) 256
   have b1 := Int.emod_nonneg M (show (256 : Int) ^ n ≠ 0 by omega)
   have b2 := Int.emod_lt_of_pos M hp
   have b3 := Int.emod_nonneg (M / 256 ^ n) (show (256 : Int) ≠ 0 by decide)
   have b4 := Int.emod_lt_of_pos (M / 256 ^ n) (show (0 : Int) < 256 by decide)
   generalize hq : M / 256 ^ n / 256 = q at *
   generalize M / 256 ^ n = d at *
   generalize d % 256 = e at *
   generalize M % 256 ^ n = r at *
   generalize (256 : Int) ^ n = P at *
   have hM : M = (r + P * e) + (P * 256) * q := by
    rw [← a1, ← a2, Int.mul_add, Int.mul_assoc]; omega
   rw [hM, Int.add_mul_emod_self_left]
   have c1 : 0 ≤ P * e := Int.mul_nonneg (by omega) b3
   have c2 : P * e ≤ P * 255 := Int.mul_le_mul_of_nonneg_left (by omega) (by omega)
   exact Int.emod_eq_of_lt (by omega) (by omega)
  exact h2.symm
end Go.Proofs.YthghcjepdhkfdaaGreatDoor

/-
  Own text. Two ends come to keys that mirror one another: the numbers.
-/
namespace Go.Proofs.YthghcjepdhkfdaaGreatDoor
open Go.RowKit Go.Proofs
set_option maxRecDepth 100000
theorem ext_at {p q r : ByteArray} {x y : Nat} (hx : x = p.size) (hy : y = x + q.size) : (p ++ (q ++ r)).extract x y = q := by
 subst hx hy
 have := ByteArray.extract_append_size_add (a := p) (b := q ++ r) (i := 0) (j := q.size)
 rw [Nat.add_zero] at this
 rw [this]
 exact ByteArray.extract_append_eq_left rfl
theorem nm_congr {u v : Nat → Int} (h : ∀ j, j < 32 → u j = v j) : nm u = nm v := dval_congr h
theorem shF_congr (a : Nat → Int) {u v : Nat → Int} (h : ∀ j, j < 32 → u j = v j) : shF a u = shF a v := by unfold shF; rw [nm_congr h]
theorem shZ_congr (a : Nat → Int) {u v : Nat → Int} (h : ∀ j, j < 32 → u j = v j) : shZ a u = shZ a v := by unfold shZ; rw [nm_congr h]
theorem nm_pub (b : Nat → Int) : nm (pubF b) = Fld.tN (nm b) 9 := by
 show dval (digN (Fld.tN (nm b) 9)) 32 = _
 rw [dval_digN]
 have h := Fld.tN_256 (nm b) 9
 exact Int.emod_eq_of_lt h.1 h.2
theorem sh_turn (a b : Nat → Int) : shF a (pubF b) = shF b (pubF a) := by
 unfold shF
 rw [nm_pub, nm_pub, Fld.tN_turns]
theorem sh_nz (a b : Nat → Int) : shZ a (pubF b) = true := by
 unfold shZ
 rw [nm_pub]
 have := Fld.tN_meets (nm a) (nm b)
 simpa using this
theorem txt_pub (b : Nat → Int) : ∀ j, j < 32 → txt (mkS 32 (pubF b)) j = pubF b j := fun j hj => txt_mkS (pubF_b b 32 j hj) hj
theorem SC_congr {n : Nat} {V V' : Nat → Value} (h : ∀ i, i < n → V i = V' i) : SC n V = SC n V' := by
 unfold SC
 congr 1
 exact List.map_congr_left (fun i hi => h i (List.mem_range.1 hi))
theorem han_congr {H C O R P R' P' : Nat → Int} {l f : Int} (hR : ∀ j, j < 32 → R j = R' j) (hP : ∀ j, j < 32 → P j = P' j) : SC 162 (hanV H C O R P l f) = SC 162 (hanV H C O R' P' l f) := by
 refine SC_congr (fun i hi => ?_)
 have h1 : 96 ≤ i → i < 128 → R (i - 96) = R' (i - 96) := fun a b => hR _ (by omega)
 have h2 : 128 ≤ i → i < 160 → P (i - 128) = P' (i - 128) := fun a b => hP _ (by omega)
 unfold hanV
 split
 ·rfl
 split
 ·rfl
 split
 ·rfl
 split
 ·rw [h1 (by omega) (by omega)]
 split
 ·rw [h2 (by omega) (by omega)]
 ·rfl
theorem under_two (key nonce : Nat → Int) (s : ByteArray) : underT key nonce (underT key nonce s) = s := by
 unfold underT
 rw [mkS_size]
 conv => rhs; rw [← mkS_txt s]
 refine mkS_congr (fun j hj => ?_)
 show xorw (txt (mkS s.size (strm key nonce 1 s)) j) (ksb key nonce 1 j) = txt s j
 rw [txt_mkS (strm_b key nonce 1 s j) hj]
 exact xorw_back8 (txt_b s j) (blk_b _ _ (Nat.mod_lt _ (by decide)))
theorem open_cut (key nonce : Nat → Int) (u m beside : ByteArray) (hm : m.size = 16) : openT key nonce (u ++ m) beside = if m = markT key nonce u beside then (underT key nonce u, 0) else (ByteArray.empty, 13) := by
 have hs : (u ++ m).size = u.size + 16 := by rw [ByteArray.size_append, hm]
 have h1 : (u ++ m).size - 16 = u.size := by omega
 unfold openT
 rw [h1, app_left, app_right]
 by_cases e : m = markT key nonce u beside
 ·rw [if_pos ⟨by omega, e⟩, if_pos e]
 ·rw [if_neg (fun h => e h.2), if_neg e]
theorem open_seal (key nonce : Nat → Int) (text beside : ByteArray) : openT key nonce (boxT key nonce text beside) beside = (text, 0) := by
 unfold boxT
 rw [open_cut _ _ _ _ _ (markT_size _ _ _ _), if_pos rfl, under_two]
def begM (O P E T H0 C0 : Nat → Int) (ix : Int) : ByteArray := ⟨#[1, 0, 0, 0]⟩ ++ fourT ix ++ mkS 32 (pubF E) ++ bgA O P E H0 C0 ++ bgB O P E T H0 C0
def ansM (H C R P S E : Nat → Int) (f ix : Int) : ByteArray := ⟨#[2, 0, 0, 0]⟩ ++ fourT ix ++ fourT f ++ mkS 32 (pubF E) ++ anB H C R P S E
theorem four1 (n : UInt8) : (⟨#[n, 0, 0, 0]⟩ : ByteArray).size = 4 := rfl
theorem bgA_size (O P E H0 C0 : Nat → Int) : (bgA O P E H0 C0).size = 48 := by unfold bgA; rw [boxT_size, mkS_size]
theorem bgB_size (O P E T H0 C0 : Nat → Int) : (bgB O P E T H0 C0).size = 28 := by unfold bgB; rw [boxT_size, mkS_size]
theorem anB_size (H C R P S E : Nat → Int) : (anB H C R P S E).size = 16 := by unfold anB; rw [boxT_size]; rfl
theorem begM_size (O P E T H0 C0 : Nat → Int) (ix : Int) : (begM O P E T H0 C0 ix).size = 116 := by
 unfold begM
 rw [ByteArray.size_append, ByteArray.size_append, ByteArray.size_append, ByteArray.size_append, four1, fourT_size, mkS_size, bgA_size, bgB_size]
theorem ansM_size (H C R P S E : Nat → Int) (f ix : Int) : (ansM H C R P S E f ix).size = 60 := by
 unfold ansM
 rw [ByteArray.size_append, ByteArray.size_append, ByteArray.size_append, ByteArray.size_append, four1, fourT_size, fourT_size, mkS_size, anB_size]
theorem accept_meets (A B E T H0 C0 : Nat → Int) (ix : Int) (r : ByteArray) (hr : r.size = 32) (hT : Byts 12 T) (hix : W32 ix) :
  AcceptR B H0 C0 (begM A (pubF B) E T H0 C0 ix ++ r) = .tuple #[.agg (SC 162 (hanV (bgH3 A (pubF B) E T H0 C0) (bgL2 A (pubF B) E C0 0) (fun _ => 0) (pubF E) (pubF A) 0 ix)), .agg (WA .u8 12 T), .int .i64 0] := by
 obtain ⟨m, hm⟩ : ∃ m, begM A (pubF B) E T H0 C0 ix ++ r = m := ⟨_, rfl⟩
 have hms : m.size = 148 := by rw [← hm, ByteArray.size_append, begM_size, hr]
 have hA := bgA_size A (pubF B) E H0 C0
 have hBs := bgB_size A (pubF B) E T H0 C0
 have e0 : m.extract 0 4 = ⟨#[1, 0, 0, 0]⟩ := by
  rw [← hm]; unfold begM
  rw [ByteArray.append_assoc, ByteArray.append_assoc, ByteArray.append_assoc, ByteArray.append_assoc]
  exact ByteArray.extract_append_eq_left rfl
 have e1 : m.extract 4 8 = fourT ix := by
  rw [← hm]; unfold begM
  rw [ByteArray.append_assoc, ByteArray.append_assoc, ByteArray.append_assoc, ByteArray.append_assoc]
  exact ext_at rfl (by rw [fourT_size])
 have e2 : m.extract 8 40 = mkS 32 (pubF E) := by
  rw [← hm]; unfold begM
  rw [ByteArray.append_assoc, ByteArray.append_assoc, ByteArray.append_assoc]
  exact ext_at (by rw [ByteArray.size_append, fourT_size]; rfl) (by rw [mkS_size])
 have e3 : m.extract 40 88 = bgA A (pubF B) E H0 C0 := by
  rw [← hm]; unfold begM
  rw [ByteArray.append_assoc, ByteArray.append_assoc]
  exact ext_at (by rw [ByteArray.size_append, ByteArray.size_append, fourT_size, mkS_size]; rfl) (by rw [hA])
 have e4 : m.extract 88 116 = bgB A (pubF B) E T H0 C0 := by
  rw [← hm]; unfold begM
  rw [ByteArray.append_assoc]
  exact ext_at (by rw [ByteArray.size_append, ByteArray.size_append, ByteArray.size_append, fourT_size, mkS_size, hA]; rfl) (by rw [hBs])
 rw [hm]
 clear hm
 have hE : ∀ j, j < 32 → acE m j = pubF E j := fun j hj => by unfold acE; rw [e2]; exact txt_pub E j hj
 have hsE : shF B (acE m) = shF E (pubF B) := by rw [shF_congr B hE, sh_turn]
 have hL : acL B C0 m = bgL1 (pubF B) E C0 := by unfold acL bgL1; rw [e2, hsE]
 have h1 : acH1 H0 m = mixH H0 (mkS 32 (pubF E)) := by unfold acH1; rw [e2]
 have hP : acP B H0 C0 m = (mkS 32 (pubF A), 0) := by unfold acP; rw [hL, h1, e3]; unfold bgA; exact open_seal _ _ _ _
 have hK : ∀ j, j < 32 → acK B H0 C0 m j = pubF A j := fun j hj => by unfold acK; rw [hP]; exact txt_pub A j hj
 have hsA : shF B (acK B H0 C0 m) = shF A (pubF B) := by rw [shF_congr B hK, sh_turn]
 have hM : acM B H0 C0 m = bgL2 A (pubF B) E C0 := by unfold acM bgL2; rw [hL, hsA]
 have h2 : acH2 H0 m = bgH2 A (pubF B) E H0 C0 := by unfold acH2 bgH2; rw [h1, e3]
 have hTT : acT B H0 C0 m = (mkS 12 T, 0) := by unfold acT; rw [hM, h2, e4]; unfold bgB; exact open_seal _ _ _ _
 have h3 : acH3 H0 m = bgH3 A (pubF B) E T H0 C0 := by unfold acH3 bgH3; rw [h2, e4]
 unfold AcceptR
 rw [if_neg (not_not_intro hms), if_neg (not_not_intro e0), if_neg (not_not_intro (by rw [shZ_congr B hE]; exact sh_nz B E)), if_neg (not_not_intro (by rw [hP])), if_neg (not_not_intro (by rw [shZ_congr B hK]; exact sh_nz B A)), if_neg (not_not_intro (by rw [hTT])), h3, hM, e1, numT_four ix hix, hTT, han_congr hE hK]
 rw [WA_congr (k := .u8) (n := 12) (s := txt (mkS 12 T)) (fun j hj => txt_mkS (hT j hj) hj)]
theorem finish_meets (A E H C S Eb : Nat → Int) (ix iy : Int) (r : ByteArray) (hr : r.size = 32) (hix : W32 ix) (hiy : W32 iy) :
  FinishR A H C E S ix (ansM H C (pubF E) (pubF A) S Eb ix iy ++ r) = .tuple #[.agg (SC 66 (paiV (anN C (pubF E) (pubF A) S Eb 0) (anN C (pubF E) (pubF A) S Eb 1) ix iy)), .int .i64 0] := by
 obtain ⟨m, hm⟩ : ∃ m, ansM H C (pubF E) (pubF A) S Eb ix iy ++ r = m := ⟨_, rfl⟩
 have hms : m.size = 92 := by rw [← hm, ByteArray.size_append, ansM_size, hr]
 have hA := anB_size H C (pubF E) (pubF A) S Eb
 have e0 : m.extract 0 4 = ⟨#[2, 0, 0, 0]⟩ := by
  rw [← hm]; unfold ansM
  rw [ByteArray.append_assoc, ByteArray.append_assoc, ByteArray.append_assoc, ByteArray.append_assoc]
  exact ByteArray.extract_append_eq_left rfl
 have e1 : m.extract 4 8 = fourT iy := by
  rw [← hm]; unfold ansM
  rw [ByteArray.append_assoc, ByteArray.append_assoc, ByteArray.append_assoc, ByteArray.append_assoc]
  exact ext_at rfl (by rw [fourT_size])
 have e2 : m.extract 8 12 = fourT ix := by
  rw [← hm]; unfold ansM
  rw [ByteArray.append_assoc, ByteArray.append_assoc, ByteArray.append_assoc]
  exact ext_at (by rw [ByteArray.size_append, fourT_size]; rfl) (by rw [fourT_size])
 have e3 : m.extract 12 44 = mkS 32 (pubF Eb) := by
  rw [← hm]; unfold ansM
  rw [ByteArray.append_assoc, ByteArray.append_assoc]
  exact ext_at (by rw [ByteArray.size_append, ByteArray.size_append, fourT_size, fourT_size]; rfl) (by rw [mkS_size])
 have e4 : m.extract 44 60 = anB H C (pubF E) (pubF A) S Eb := by
  rw [← hm]; unfold ansM
  rw [ByteArray.append_assoc]
  exact ext_at (by rw [ByteArray.size_append, ByteArray.size_append, ByteArray.size_append, fourT_size, fourT_size, mkS_size]; rfl) (by rw [hA])
 rw [hm]
 clear hm
 have hE : ∀ j, j < 32 → fiE m j = pubF Eb j := fun j hj => by unfold fiE; rw [e3]; exact txt_pub Eb j hj
 have hs1 : shF E (fiE m) = shF Eb (pubF E) := by rw [shF_congr E hE, sh_turn]
 have hs2 : shF A (fiE m) = shF Eb (pubF A) := by rw [shF_congr A hE, sh_turn]
 have hL : fiL C E A S m = anL C (pubF E) (pubF A) S Eb := by unfold fiL anL; rw [e3, hs1, hs2]
 have hH : fiH H C E A S m = anH H C (pubF E) (pubF A) S Eb := by unfold fiH anH; rw [e3, hs1, hs2]
 have hT : fiT H C E A S m = (⟨#[]⟩, 0) := by unfold fiT; rw [hL, hH, e4]; unfold anB; exact open_seal _ _ _ _
 have hN : fiN C E A S m = anN C (pubF E) (pubF A) S Eb := by unfold fiN anN; rw [hL]
 unfold FinishR
 rw [if_neg (not_not_intro hms), if_neg (not_not_intro e0), if_neg (not_not_intro (by rw [e2, numT_four ix hix])), if_neg (not_not_intro ⟨by rw [shZ_congr E hE]; exact sh_nz E Eb, by rw [shZ_congr A hE]; exact sh_nz A Eb⟩), if_neg (not_not_intro (by rw [hT])), hN, e1, numT_four iy hiy]
end Go.Proofs.YthghcjepdhkfdaaGreatDoor

/-
  Own text. Package noise: the steps of the first message.
-/
namespace Go.Proofs.YthghcjepdhkfdaaGreatDoor
open Go.RowKit Go.Proofs
set_option maxRecDepth 100000
theorem enterPub (args : Array Value) (w : World) : (callFunc 18 args).run Tryz.prog w = .ok (.enter 18 args) w := by kernel_rfl
theorem enterIniT (args : Array Value) (w : World) : (callFunc 83 args).run Tryz.prog w = .ok (.enter 83 args) w := by kernel_rfl
theorem zeroI (w : World) : (zeroValue 118).run Tryz.prog w = .ok (.agg (SC 35 iniZ)) w := by kernel_rfl
theorem wl_allocI {ops : Array Oper} {rest : List Oper} {d : Option Tmp} {t : TypeId} {ps : String} {af : Array Edge} {a : Act} {w : World} {Q : Exit → Act → World → Prop}
  (h : ∀ w', SAt w' w.heap.size 118 35 iniZ → Below w.heap.size w w' → wpList Tryz.prog ops Q rest (a.put d (.pointer (some ⟨w.heap.size, 0, none⟩))) w') :
  wpList Tryz.prog ops Q ({ dst := d, op := .alloc 118, type := t, pos := ps, after := af, guard := none } :: rest) a w :=
 wl_act rfl (act_alloc zeroI rfl (fun w' hb hg => h w' hg hb))
set_option linter.unusedVariables false in
set_option maxHeartbeats 4000000 in
set_option maxRecDepth 100000 in
theorem begin_no1 (O P E T H0 C0 : Nat → Int) (ix : Int) (w : World) (hE : Env w) (hO : Byts 32 O) (hP : Byts 32 P) (hEk : Byts 32 E) (hT : Byts 12 T) (hC0 : Byts 32 C0) (hH0 : Byts 32 H0) (hz : shZ E P = false)
  (hBeg : ∀ u, Env u → Calls Tryz.prog 78 #[.agg (WA .u8 32 P)] u fun e w' => ∃ b, u.heap.size ≤ b ∧ e = .returned (.pointer (some ⟨b, 0, none⟩)) ∧ KtAt w' b H0 C0 (fun _ => 0) ∧ Below u.heap.size u w') :
  Calls Tryz.prog 36 #[.agg (WA .u8 32 O), .agg (WA .u8 32 P), .agg (WA .u8 32 E), .agg (WA .u8 12 T), .int .u32 ix] w fun e w' => e = gup 18 ∧ Below w.heap.size w w' := by
 have hb4 : Below (((((w.alloc (.cells (WA .u8 32 O) 22)).alloc (.cells (WA .u8 32 P) 22)).alloc (.cells (WA .u8 32 E) 22)).alloc (.cells (WA .u8 12 T) 26))).heap.size ((((w.alloc (.cells (WA .u8 32 O) 22)).alloc (.cells (WA .u8 32 P) 22)).alloc (.cells (WA .u8 32 E) 22)).alloc (.cells (WA .u8 12 T) 26)) (((((w.alloc (.cells (WA .u8 32 O) 22)).alloc (.cells (WA .u8 32 P) 22)).alloc (.cells (WA .u8 32 E) 22)).alloc (.cells (WA .u8 12 T) 26)).alloc (.cells Tryz.zeroCells31 31)) := (Below.refl _ _).alloc (Nat.le_refl _) _
 have g0 : ArrAt (((((w.alloc (.cells (WA .u8 32 O) 22)).alloc (.cells (WA .u8 32 P) 22)).alloc (.cells (WA .u8 32 E) 22)).alloc (.cells (WA .u8 12 T) 26)).alloc (.cells Tryz.zeroCells31 31)) w.heap.size .u8 22 32 O := ArrAt.kept (heap_a41 w _ _ _ _) hb4
 have g1 : ArrAt (((((w.alloc (.cells (WA .u8 32 O) 22)).alloc (.cells (WA .u8 32 P) 22)).alloc (.cells (WA .u8 32 E) 22)).alloc (.cells (WA .u8 12 T) 26)).alloc (.cells Tryz.zeroCells31 31)) (w.heap.size + 1) .u8 22 32 P := ArrAt.kept (heap_a42 w _ _ _ _) hb4
 have g2 : ArrAt (((((w.alloc (.cells (WA .u8 32 O) 22)).alloc (.cells (WA .u8 32 P) 22)).alloc (.cells (WA .u8 32 E) 22)).alloc (.cells (WA .u8 12 T) 26)).alloc (.cells Tryz.zeroCells31 31)) (w.heap.size + 1 + 1) .u8 22 32 E := ArrAt.kept (heap_a43 w _ _ _ _) hb4
 have g3 : ArrAt (((((w.alloc (.cells (WA .u8 32 O) 22)).alloc (.cells (WA .u8 32 P) 22)).alloc (.cells (WA .u8 32 E) 22)).alloc (.cells (WA .u8 12 T) 26)).alloc (.cells Tryz.zeroCells31 31)) (w.heap.size + 1 + 1 + 1) .u8 26 12 T := ArrAt.kept (heap_a4 w _ _ _ _) hb4
 have gH : SAt (((((w.alloc (.cells (WA .u8 32 O) 22)).alloc (.cells (WA .u8 32 P) 22)).alloc (.cells (WA .u8 32 E) 22)).alloc (.cells (WA .u8 12 T) 26)).alloc (.cells Tryz.zeroCells31 31)) (w.heap.size + 1 + 1 + 1 + 1) 31 162 hanZ := by
  have h := heap_alloc_new ((((w.alloc (.cells (WA .u8 32 O) 22)).alloc (.cells (WA .u8 32 P) 22)).alloc (.cells (WA .u8 32 E) 22)).alloc (.cells (WA .u8 12 T) 26)) (.cells Tryz.zeroCells31 31)
  have e : (((((w.alloc (.cells (WA .u8 32 O) 22)).alloc (.cells (WA .u8 32 P) 22)).alloc (.cells (WA .u8 32 E) 22)).alloc (.cells (WA .u8 12 T) 26))).heap.size = w.heap.size + 1 + 1 + 1 + 1 := by simp
  rw [e] at h
  unfold SAt
  rw [← zeroHand]
  exact h
 have hB : Below w.heap.size w (((((w.alloc (.cells (WA .u8 32 O) 22)).alloc (.cells (WA .u8 32 P) 22)).alloc (.cells (WA .u8 32 E) 22)).alloc (.cells (WA .u8 12 T) 26)).alloc (.cells Tryz.zeroCells31 31)) := (((((Below.refl _ w).alloc (by simp) _).alloc (by simp) _).alloc (by simp; omega) _).alloc (by simp; omega) _).alloc (by simp; omega) _
 replace hE := hE.kept hB
 have HOO := Hid.mk hO
 have HEE := Hid.mk hEk
 clear hb4
 go_enter Tryz.func36, Tryz.ntmps36
 go_wp2_with fail
 refine wp_gen (fun v => ArrAt v w.heap.size .u8 22 32 O ∧ ArrAt v (w.heap.size + 1) .u8 22 32 P ∧ ArrAt v (w.heap.size + 1 + 1) .u8 22 32 E ∧ ArrAt v (w.heap.size + 1 + 1 + 1) .u8 26 12 T ∧ SAt v (w.heap.size + 1 + 1 + 1 + 1) 31 162 hanZ ∧ Below w.heap.size w v ∧ Env v) ⟨g0, g1, g2, g3, gH, hB, hE⟩ ?_
 clear g0 g1 g2 g3 gH hB hE
 rintro v0 ⟨g0, g1, g2, g3, gH, hB, hE⟩
 have HG0 : Hid (∀ u, Below v0.heap.size v0 u → ArrAt u w.heap.size .u8 22 32 O) := Hid.mk (fun u hu => g0.kept hu)
 have HG2 : Hid (∀ u, Below v0.heap.size v0 u → ArrAt u (w.heap.size + 1 + 1) .u8 22 32 E) := Hid.mk (fun u hu => g2.kept hu)
 have HP : Hid (∀ u, Below v0.heap.size v0 u → Fld.PrimeAt u) := Hid.mk (fun u hu => (hE.kept hu).2)
 have hHlt := gH.lt
 refine wp_region3 (Below v0.heap.size v0) v0.heap.size
   ([] : List (Nat × Cont))
   [kv (.agg (WA .u8 32 E)), kv (.agg (WA .u8 32 (pubF E))), kv (.agg (WA .u8 32 O)), kv (.agg (WA .u8 32 (pubF O))), kp (WA .u8 32 fun _ => 0) 22 6 (WA .u8 32 (pubF E)), kp (WA .u8 32 fun _ => 0) 22 7 (WA .u8 32 (pubF O)), .val fun _ => True, .val fun _ => True]
   [.none, .none, .none, .none, .none, .none, .own 4 1, .own 5 1]
   [some 18, some 19, some 20, some 21, some 12, some 13, none, none]
   [(7, .pointer (some ⟨(w.heap.size + 1 + 1), 0, none⟩)), (5, .pointer (some ⟨w.heap.size, 0, none⟩))]
   [[], [.slot 0], [], [.slot 2], [], [], [.slot 4, .cont 4 0, .slot 1], [.slot 5, .cont 5 0, .slot 3]]
   [.slot 4, .cont 4 1, .slot 5, .cont 5 1] [18, 19, 20, 21, 12, 13]
   rfl (by kernel_rfl) ⟨rfl, rfl, trivial⟩ (Below.refl _ v0).drew (Nat.le_refl _) trivial trivial (below_G (Nat.le_refl _) trivial)
   ⟨
    (fun Q aq ww own hS hBg fr kn => .inl ⟨trivial, fun K hK => wp_value (look_arr rfl isArr32 (HG2.out ww hS) fr.1) (hK _ _ ⟨Touch.refl _ _, rfl⟩)⟩),
    (fun Q aq ww own hS hBg fr kn => .inl ⟨trivial, fun K hK => stepc enterPub rfl (args1 kn.1) (Public_run E ww (HP.out ww hS) HEE.out) (fun w' hb => hK _ _ ⟨touch_below hb, rfl⟩)⟩),
    (fun Q aq ww own hS hBg fr kn => .inl ⟨trivial, fun K hK => wp_value (look_arr rfl isArr32 (HG0.out ww hS) fr.2.1) (hK _ _ ⟨Touch.refl _ _, rfl⟩)⟩),
    (fun Q aq ww own hS hBg fr kn => .inl ⟨trivial, fun K hK => stepc enterPub rfl (args1 kn.1) (Public_run O ww (HP.out ww hS) HOO.out) (fun w' hb => hK _ _ ⟨touch_below hb, rfl⟩)⟩),
    (fun Q aq ww own hS hBg fr kn => .inl ⟨trivial, fun K hK => act_alloc zero32 rfl (fun w' hb hg => hK _ _ ⟨touch_below hb, _, Nat.le_refl _, rfl, obIn hg⟩)⟩),
    (fun Q aq ww own hS hBg fr kn => .inl ⟨trivial, fun K hK => act_alloc zero32 rfl (fun w' hb hg => hK _ _ ⟨touch_below hb, _, Nat.le_refl _, rfl, obIn hg⟩)⟩),
    (fun Q aq ww own hS hBg fr kn => .inl ⟨trivial, fun K hK => act_arr rfl isArr32 kn.1.1 kn.2.2.1 (obAt kn.2.1) (fun w2 hg ho => hK _ _ ⟨touch_only ho, obIn hg, trivial⟩)⟩),
    (fun Q aq ww own hS hBg fr kn => .inl ⟨trivial, fun K hK => act_arr rfl isArr32 kn.1.1 kn.2.2.1 (obAt kn.2.1) (fun w2 hg ho => hK _ _ ⟨touch_only ho, obIn hg, trivial⟩)⟩),
    trivial⟩ ?_
 intro vs own v1 hb hs1 kn inj
 clear inj HG0 HG2 HP
 obtain ⟨k1, k2, k3, k4, -⟩ := kn
 obtain ⟨e12, hb12, _⟩ := k1
 obtain ⟨e13, hb13, _⟩ := k3
 change vs 12 = _ at e12
 change vs 13 = _ at e13
 have ge : ArrAt v1 (own 4) .u8 22 32 (pubF E) := obAt k2
 have gk : ArrAt v1 (own 5) .u8 22 32 (pubF O) := obAt k4
 clear k2 k4 hs1
 replace g0 := g0.kept hb
 replace g1 := g1.kept hb
 replace g2 := g2.kept hb
 replace g3 := g3.kept hb
 replace gH := gH.kept hb
 replace hE := hE.kept hb
 replace hB := hB.trans (hb.mono hB.size)
 clear hb
 
 simp only [putAll, Act.put, List.setIfInBounds_toArray, List.set_cons_zero, List.set_cons_succ, e12, e13]
 generalize own 4 = be at *
 generalize own 5 = bk at *
 clear e12 e13
 have hbe : w.heap.size + 1 + 1 + 1 + 1 + 1 ≤ be := by omega
 have hbk : w.heap.size + 1 + 1 + 1 + 1 + 1 ≤ bk := by omega
 clear hb12 hb13 hHlt
 go_wp2_with (refine ld_arr isArr32 g1 (by rfl) ?_)
 have hlt1 := ge.lt
 have hlt2 := gk.lt
 have hlt3 := gH.lt
 have hEt := hE.two
 have hBs := hB.size
 refine (hBeg _ hE).mono ?_
 rintro x v2 ⟨b, hbb, rfl, g, hb⟩
 have hb3 : 3 ≤ b := by omega
 have hbS : w.heap.size ≤ b := by omega
 replace g0 := g0.kept hb
 replace g1 := g1.kept hb
 replace g2 := g2.kept hb
 replace g3 := g3.kept hb
 replace gH := gH.kept hb
 replace ge := ge.kept hb
 replace gk := gk.kept hb
 replace hE := hE.kept hb
 replace hB := hB.trans (hb.mono hB.size)
 clear hb
 
 clear hBeg hEt hBs
 go_wp2_with (refine ld_arr isArr32 ge (by rfl) ?_)
 refine (ephemeralIn_run b H0 C0 _ (pubF E) _ hE hb3 g hH0 hC0 (pubF_b E 32)).mono ?_
 rintro x v3 ⟨rfl, g', t1⟩
 replace g0 := g0.tou t1 (by omega)
 replace g1 := g1.tou t1 (by omega)
 replace g2 := g2.tou t1 (by omega)
 replace g3 := g3.tou t1 (by omega)
 replace gH := gH.tou t1 (by omega)
 replace ge := ge.tou t1 (by omega)
 replace gk := gk.tou t1 (by omega)
 replace hE := hE.touch t1 hb3
 replace hB := belowT hB t1 hbS (Nat.le_refl _)
 clear t1
 
 clear g
 have g := g'
 clear g'
 have hC1 : Byts 32 (chn C0 (mkS 32 (pubF E)) 0) := chn_b _ _ 0 32
 have hH1 : Byts 32 (mixH H0 (mkS 32 (pubF E))) := mixH_b _ _ 32
 obtain ⟨C1, hC1e⟩ : ∃ X, chn C0 (mkS 32 (pubF E)) 0 = X := ⟨_, rfl⟩
 obtain ⟨H1, hH1e⟩ : ∃ X, mixH H0 (mkS 32 (pubF E)) = X := ⟨_, rfl⟩
 rw [hC1e] at g hC1
 rw [hH1e] at g hH1
 have hmf : ∀ (fn : Fn) (first cap : Array Value) (w : World), (Instr.makeFunc fn first cap).run Tryz.prog w = .ok (.func fn first cap) w := fun _ _ _ _ => rfl
 go_wp2_with (first | (refine ld_arr isArr32 g2 (by rfl) ?_) | (refine ld_arr isArr32 g1 (by rfl) ?_))
 refine (secret_no _ E P _ hE hEk hP hz).mono ?_
 rintro x v9 ⟨rfl, hb⟩
 exact ⟨rfl, rfl, hB.trans (hb.mono hB.size)⟩
set_option linter.unusedVariables false in
set_option maxHeartbeats 4000000 in
set_option maxRecDepth 100000 in
theorem begin_no2 (O P E T H0 C0 : Nat → Int) (ix : Int) (w : World) (hE : Env w) (hO : Byts 32 O) (hP : Byts 32 P) (hEk : Byts 32 E) (hT : Byts 12 T) (hC0 : Byts 32 C0) (hH0 : Byts 32 H0) (hzE : shZ E P = true) (hz : shZ O P = false)
  (hBeg : ∀ u, Env u → Calls Tryz.prog 78 #[.agg (WA .u8 32 P)] u fun e w' => ∃ b, u.heap.size ≤ b ∧ e = .returned (.pointer (some ⟨b, 0, none⟩)) ∧ KtAt w' b H0 C0 (fun _ => 0) ∧ Below u.heap.size u w') :
  Calls Tryz.prog 36 #[.agg (WA .u8 32 O), .agg (WA .u8 32 P), .agg (WA .u8 32 E), .agg (WA .u8 12 T), .int .u32 ix] w fun e w' => e = gup 18 ∧ Below w.heap.size w w' := by
 have hb4 : Below (((((w.alloc (.cells (WA .u8 32 O) 22)).alloc (.cells (WA .u8 32 P) 22)).alloc (.cells (WA .u8 32 E) 22)).alloc (.cells (WA .u8 12 T) 26))).heap.size ((((w.alloc (.cells (WA .u8 32 O) 22)).alloc (.cells (WA .u8 32 P) 22)).alloc (.cells (WA .u8 32 E) 22)).alloc (.cells (WA .u8 12 T) 26)) (((((w.alloc (.cells (WA .u8 32 O) 22)).alloc (.cells (WA .u8 32 P) 22)).alloc (.cells (WA .u8 32 E) 22)).alloc (.cells (WA .u8 12 T) 26)).alloc (.cells Tryz.zeroCells31 31)) := (Below.refl _ _).alloc (Nat.le_refl _) _
 have g0 : ArrAt (((((w.alloc (.cells (WA .u8 32 O) 22)).alloc (.cells (WA .u8 32 P) 22)).alloc (.cells (WA .u8 32 E) 22)).alloc (.cells (WA .u8 12 T) 26)).alloc (.cells Tryz.zeroCells31 31)) w.heap.size .u8 22 32 O := ArrAt.kept (heap_a41 w _ _ _ _) hb4
 have g1 : ArrAt (((((w.alloc (.cells (WA .u8 32 O) 22)).alloc (.cells (WA .u8 32 P) 22)).alloc (.cells (WA .u8 32 E) 22)).alloc (.cells (WA .u8 12 T) 26)).alloc (.cells Tryz.zeroCells31 31)) (w.heap.size + 1) .u8 22 32 P := ArrAt.kept (heap_a42 w _ _ _ _) hb4
 have g2 : ArrAt (((((w.alloc (.cells (WA .u8 32 O) 22)).alloc (.cells (WA .u8 32 P) 22)).alloc (.cells (WA .u8 32 E) 22)).alloc (.cells (WA .u8 12 T) 26)).alloc (.cells Tryz.zeroCells31 31)) (w.heap.size + 1 + 1) .u8 22 32 E := ArrAt.kept (heap_a43 w _ _ _ _) hb4
 have g3 : ArrAt (((((w.alloc (.cells (WA .u8 32 O) 22)).alloc (.cells (WA .u8 32 P) 22)).alloc (.cells (WA .u8 32 E) 22)).alloc (.cells (WA .u8 12 T) 26)).alloc (.cells Tryz.zeroCells31 31)) (w.heap.size + 1 + 1 + 1) .u8 26 12 T := ArrAt.kept (heap_a4 w _ _ _ _) hb4
 have gH : SAt (((((w.alloc (.cells (WA .u8 32 O) 22)).alloc (.cells (WA .u8 32 P) 22)).alloc (.cells (WA .u8 32 E) 22)).alloc (.cells (WA .u8 12 T) 26)).alloc (.cells Tryz.zeroCells31 31)) (w.heap.size + 1 + 1 + 1 + 1) 31 162 hanZ := by
  have h := heap_alloc_new ((((w.alloc (.cells (WA .u8 32 O) 22)).alloc (.cells (WA .u8 32 P) 22)).alloc (.cells (WA .u8 32 E) 22)).alloc (.cells (WA .u8 12 T) 26)) (.cells Tryz.zeroCells31 31)
  have e : (((((w.alloc (.cells (WA .u8 32 O) 22)).alloc (.cells (WA .u8 32 P) 22)).alloc (.cells (WA .u8 32 E) 22)).alloc (.cells (WA .u8 12 T) 26))).heap.size = w.heap.size + 1 + 1 + 1 + 1 := by simp
  rw [e] at h
  unfold SAt
  rw [← zeroHand]
  exact h
 have hB : Below w.heap.size w (((((w.alloc (.cells (WA .u8 32 O) 22)).alloc (.cells (WA .u8 32 P) 22)).alloc (.cells (WA .u8 32 E) 22)).alloc (.cells (WA .u8 12 T) 26)).alloc (.cells Tryz.zeroCells31 31)) := (((((Below.refl _ w).alloc (by simp) _).alloc (by simp) _).alloc (by simp; omega) _).alloc (by simp; omega) _).alloc (by simp; omega) _
 replace hE := hE.kept hB
 have HOO := Hid.mk hO
 have HEE := Hid.mk hEk
 clear hb4
 go_enter Tryz.func36, Tryz.ntmps36
 go_wp2_with fail
 refine wp_gen (fun v => ArrAt v w.heap.size .u8 22 32 O ∧ ArrAt v (w.heap.size + 1) .u8 22 32 P ∧ ArrAt v (w.heap.size + 1 + 1) .u8 22 32 E ∧ ArrAt v (w.heap.size + 1 + 1 + 1) .u8 26 12 T ∧ SAt v (w.heap.size + 1 + 1 + 1 + 1) 31 162 hanZ ∧ Below w.heap.size w v ∧ Env v) ⟨g0, g1, g2, g3, gH, hB, hE⟩ ?_
 clear g0 g1 g2 g3 gH hB hE
 rintro v0 ⟨g0, g1, g2, g3, gH, hB, hE⟩
 have HG0 : Hid (∀ u, Below v0.heap.size v0 u → ArrAt u w.heap.size .u8 22 32 O) := Hid.mk (fun u hu => g0.kept hu)
 have HG2 : Hid (∀ u, Below v0.heap.size v0 u → ArrAt u (w.heap.size + 1 + 1) .u8 22 32 E) := Hid.mk (fun u hu => g2.kept hu)
 have HP : Hid (∀ u, Below v0.heap.size v0 u → Fld.PrimeAt u) := Hid.mk (fun u hu => (hE.kept hu).2)
 have hHlt := gH.lt
 refine wp_region3 (Below v0.heap.size v0) v0.heap.size
   ([] : List (Nat × Cont))
   [kv (.agg (WA .u8 32 E)), kv (.agg (WA .u8 32 (pubF E))), kv (.agg (WA .u8 32 O)), kv (.agg (WA .u8 32 (pubF O))), kp (WA .u8 32 fun _ => 0) 22 6 (WA .u8 32 (pubF E)), kp (WA .u8 32 fun _ => 0) 22 7 (WA .u8 32 (pubF O)), .val fun _ => True, .val fun _ => True]
   [.none, .none, .none, .none, .none, .none, .own 4 1, .own 5 1]
   [some 18, some 19, some 20, some 21, some 12, some 13, none, none]
   [(7, .pointer (some ⟨(w.heap.size + 1 + 1), 0, none⟩)), (5, .pointer (some ⟨w.heap.size, 0, none⟩))]
   [[], [.slot 0], [], [.slot 2], [], [], [.slot 4, .cont 4 0, .slot 1], [.slot 5, .cont 5 0, .slot 3]]
   [.slot 4, .cont 4 1, .slot 5, .cont 5 1] [18, 19, 20, 21, 12, 13]
   rfl (by kernel_rfl) ⟨rfl, rfl, trivial⟩ (Below.refl _ v0).drew (Nat.le_refl _) trivial trivial (below_G (Nat.le_refl _) trivial)
   ⟨
    (fun Q aq ww own hS hBg fr kn => .inl ⟨trivial, fun K hK => wp_value (look_arr rfl isArr32 (HG2.out ww hS) fr.1) (hK _ _ ⟨Touch.refl _ _, rfl⟩)⟩),
    (fun Q aq ww own hS hBg fr kn => .inl ⟨trivial, fun K hK => stepc enterPub rfl (args1 kn.1) (Public_run E ww (HP.out ww hS) HEE.out) (fun w' hb => hK _ _ ⟨touch_below hb, rfl⟩)⟩),
    (fun Q aq ww own hS hBg fr kn => .inl ⟨trivial, fun K hK => wp_value (look_arr rfl isArr32 (HG0.out ww hS) fr.2.1) (hK _ _ ⟨Touch.refl _ _, rfl⟩)⟩),
    (fun Q aq ww own hS hBg fr kn => .inl ⟨trivial, fun K hK => stepc enterPub rfl (args1 kn.1) (Public_run O ww (HP.out ww hS) HOO.out) (fun w' hb => hK _ _ ⟨touch_below hb, rfl⟩)⟩),
    (fun Q aq ww own hS hBg fr kn => .inl ⟨trivial, fun K hK => act_alloc zero32 rfl (fun w' hb hg => hK _ _ ⟨touch_below hb, _, Nat.le_refl _, rfl, obIn hg⟩)⟩),
    (fun Q aq ww own hS hBg fr kn => .inl ⟨trivial, fun K hK => act_alloc zero32 rfl (fun w' hb hg => hK _ _ ⟨touch_below hb, _, Nat.le_refl _, rfl, obIn hg⟩)⟩),
    (fun Q aq ww own hS hBg fr kn => .inl ⟨trivial, fun K hK => act_arr rfl isArr32 kn.1.1 kn.2.2.1 (obAt kn.2.1) (fun w2 hg ho => hK _ _ ⟨touch_only ho, obIn hg, trivial⟩)⟩),
    (fun Q aq ww own hS hBg fr kn => .inl ⟨trivial, fun K hK => act_arr rfl isArr32 kn.1.1 kn.2.2.1 (obAt kn.2.1) (fun w2 hg ho => hK _ _ ⟨touch_only ho, obIn hg, trivial⟩)⟩),
    trivial⟩ ?_
 intro vs own v1 hb hs1 kn inj
 clear inj HG0 HG2 HP
 obtain ⟨k1, k2, k3, k4, -⟩ := kn
 obtain ⟨e12, hb12, _⟩ := k1
 obtain ⟨e13, hb13, _⟩ := k3
 change vs 12 = _ at e12
 change vs 13 = _ at e13
 have ge : ArrAt v1 (own 4) .u8 22 32 (pubF E) := obAt k2
 have gk : ArrAt v1 (own 5) .u8 22 32 (pubF O) := obAt k4
 clear k2 k4 hs1
 replace g0 := g0.kept hb
 replace g1 := g1.kept hb
 replace g2 := g2.kept hb
 replace g3 := g3.kept hb
 replace gH := gH.kept hb
 replace hE := hE.kept hb
 replace hB := hB.trans (hb.mono hB.size)
 clear hb
 
 simp only [putAll, Act.put, List.setIfInBounds_toArray, List.set_cons_zero, List.set_cons_succ, e12, e13]
 generalize own 4 = be at *
 generalize own 5 = bk at *
 clear e12 e13
 have hbe : w.heap.size + 1 + 1 + 1 + 1 + 1 ≤ be := by omega
 have hbk : w.heap.size + 1 + 1 + 1 + 1 + 1 ≤ bk := by omega
 clear hb12 hb13 hHlt
 go_wp2_with (refine ld_arr isArr32 g1 (by rfl) ?_)
 have hlt1 := ge.lt
 have hlt2 := gk.lt
 have hlt3 := gH.lt
 have hEt := hE.two
 have hBs := hB.size
 refine (hBeg _ hE).mono ?_
 rintro x v2 ⟨b, hbb, rfl, g, hb⟩
 have hb3 : 3 ≤ b := by omega
 have hbS : w.heap.size ≤ b := by omega
 replace g0 := g0.kept hb
 replace g1 := g1.kept hb
 replace g2 := g2.kept hb
 replace g3 := g3.kept hb
 replace gH := gH.kept hb
 replace ge := ge.kept hb
 replace gk := gk.kept hb
 replace hE := hE.kept hb
 replace hB := hB.trans (hb.mono hB.size)
 clear hb
 
 clear hBeg hEt hBs
 go_wp2_with (refine ld_arr isArr32 ge (by rfl) ?_)
 refine (ephemeralIn_run b H0 C0 _ (pubF E) _ hE hb3 g hH0 hC0 (pubF_b E 32)).mono ?_
 rintro x v3 ⟨rfl, g', t1⟩
 replace g0 := g0.tou t1 (by omega)
 replace g1 := g1.tou t1 (by omega)
 replace g2 := g2.tou t1 (by omega)
 replace g3 := g3.tou t1 (by omega)
 replace gH := gH.tou t1 (by omega)
 replace ge := ge.tou t1 (by omega)
 replace gk := gk.tou t1 (by omega)
 replace hE := hE.touch t1 hb3
 replace hB := belowT hB t1 hbS (Nat.le_refl _)
 clear t1
 
 clear g
 have g := g'
 clear g'
 have hC1 : Byts 32 (chn C0 (mkS 32 (pubF E)) 0) := chn_b _ _ 0 32
 have hH1 : Byts 32 (mixH H0 (mkS 32 (pubF E))) := mixH_b _ _ 32
 obtain ⟨C1, hC1e⟩ : ∃ X, chn C0 (mkS 32 (pubF E)) 0 = X := ⟨_, rfl⟩
 obtain ⟨H1, hH1e⟩ : ∃ X, mixH H0 (mkS 32 (pubF E)) = X := ⟨_, rfl⟩
 rw [hC1e] at g hC1
 rw [hH1e] at g hH1
 have hmf : ∀ (fn : Fn) (first cap : Array Value) (w : World), (Instr.makeFunc fn first cap).run Tryz.prog w = .ok (.func fn first cap) w := fun _ _ _ _ => rfl
 go_wp2_with (first | (refine ld_arr isArr32 g2 (by rfl) ?_) | (refine ld_arr isArr32 g1 (by rfl) ?_))
 refine (secretKey_run b H1 C1 _ E P _ hE g hC1 hEk hP hzE).mono ?_
 rintro x v4 ⟨rfl, g', t1⟩
 replace g0 := g0.tou t1 (by omega)
 replace g1 := g1.tou t1 (by omega)
 replace g2 := g2.tou t1 (by omega)
 replace g3 := g3.tou t1 (by omega)
 replace gH := gH.tou t1 (by omega)
 replace ge := ge.tou t1 (by omega)
 replace gk := gk.tou t1 (by omega)
 replace hE := hE.touch t1 hb3
 replace hB := belowT hB t1 hbS (Nat.le_refl _)
 clear t1
 
 clear g
 have g := g'
 clear g'
 obtain ⟨L, hLe⟩ : ∃ X, chn C1 (mkS 32 (shF E P)) = X := ⟨_, rfl⟩
 have hL : ∀ i, Byts 32 (L i) := fun i => hLe ▸ chn_b _ _ i 32
 rw [hLe] at g
 have hcv := str_back 32 bk 32 _ 32 (pubF O) gk.row (pubF_b O 32) rfl
 go_wp2_with fail
 refine (seal_run b H1 (L 0) (L 1) (mkS 32 (pubF O)) _ hE hb3 g hH1 (hL 1) (by rw [mkS_size]; omega)).mono ?_
 rintro x v5 ⟨rfl, g', t1⟩
 replace g0 := g0.tou t1 (by omega)
 replace g1 := g1.tou t1 (by omega)
 replace g2 := g2.tou t1 (by omega)
 replace g3 := g3.tou t1 (by omega)
 replace gH := gH.tou t1 (by omega)
 replace ge := ge.tou t1 (by omega)
 replace gk := gk.tou t1 (by omega)
 replace hE := hE.touch t1 hb3
 replace hB := belowT hB t1 hbS (Nat.le_refl _)
 clear t1
 
 clear g hcv
 have g := g'
 clear g'
 have hZas : (boxT (L 1) non0 (mkS 32 (pubF O)) (mkS 32 H1)).size ≤ 48 := by rw [boxT_size, mkS_size]; omega
 obtain ⟨Za, hZa⟩ : ∃ X, boxT (L 1) non0 (mkS 32 (pubF O)) (mkS 32 H1) = X := ⟨_, rfl⟩
 rw [hZa] at g hZas ⊢
 obtain ⟨H2, hH2e⟩ : ∃ X, mixH H1 Za = X := ⟨_, rfl⟩
 rw [hH2e] at g
 have hH2 : Byts 32 H2 := hH2e ▸ mixH_b _ _ 32
 go_wp2_with (first | (refine ld_arr isArr32 g0 (by rfl) ?_) | (refine ld_arr isArr32 g1 (by rfl) ?_))
 refine (secret_no _ O P _ hE hO hP hz).mono ?_
 rintro x v9 ⟨rfl, hb⟩
 exact ⟨rfl, rfl, hB.trans (hb.mono hB.size)⟩
set_option linter.unusedVariables false in
set_option maxHeartbeats 4000000 in
set_option maxRecDepth 100000 in
theorem begin_ok (O P E T H0 C0 : Nat → Int) (ix : Int) (w : World) (hE : Env w) (hO : Byts 32 O) (hP : Byts 32 P) (hEk : Byts 32 E) (hT : Byts 12 T) (hC0 : Byts 32 C0) (hH0 : Byts 32 H0) (hzE : shZ E P = true) (hzO : shZ O P = true)
  (hBeg : ∀ u, Env u → Calls Tryz.prog 78 #[.agg (WA .u8 32 P)] u fun e w' => ∃ b, u.heap.size ≤ b ∧ e = .returned (.pointer (some ⟨b, 0, none⟩)) ∧ KtAt w' b H0 C0 (fun _ => 0) ∧ Below u.heap.size u w') :
  Calls Tryz.prog 36 #[.agg (WA .u8 32 O), .agg (WA .u8 32 P), .agg (WA .u8 32 E), .agg (WA .u8 12 T), .int .u32 ix] w fun e w' => e = .returned (.tuple #[.string (begM O P E T H0 C0 ix), .agg (SC 162 (hanV (bgH3 O P E T H0 C0) (bgL2 O P E C0 0) E (fun _ => 0) P ix 0))]) ∧ Below w.heap.size w w' := by
 have hb4 : Below (((((w.alloc (.cells (WA .u8 32 O) 22)).alloc (.cells (WA .u8 32 P) 22)).alloc (.cells (WA .u8 32 E) 22)).alloc (.cells (WA .u8 12 T) 26))).heap.size ((((w.alloc (.cells (WA .u8 32 O) 22)).alloc (.cells (WA .u8 32 P) 22)).alloc (.cells (WA .u8 32 E) 22)).alloc (.cells (WA .u8 12 T) 26)) (((((w.alloc (.cells (WA .u8 32 O) 22)).alloc (.cells (WA .u8 32 P) 22)).alloc (.cells (WA .u8 32 E) 22)).alloc (.cells (WA .u8 12 T) 26)).alloc (.cells Tryz.zeroCells31 31)) := (Below.refl _ _).alloc (Nat.le_refl _) _
 have g0 : ArrAt (((((w.alloc (.cells (WA .u8 32 O) 22)).alloc (.cells (WA .u8 32 P) 22)).alloc (.cells (WA .u8 32 E) 22)).alloc (.cells (WA .u8 12 T) 26)).alloc (.cells Tryz.zeroCells31 31)) w.heap.size .u8 22 32 O := ArrAt.kept (heap_a41 w _ _ _ _) hb4
 have g1 : ArrAt (((((w.alloc (.cells (WA .u8 32 O) 22)).alloc (.cells (WA .u8 32 P) 22)).alloc (.cells (WA .u8 32 E) 22)).alloc (.cells (WA .u8 12 T) 26)).alloc (.cells Tryz.zeroCells31 31)) (w.heap.size + 1) .u8 22 32 P := ArrAt.kept (heap_a42 w _ _ _ _) hb4
 have g2 : ArrAt (((((w.alloc (.cells (WA .u8 32 O) 22)).alloc (.cells (WA .u8 32 P) 22)).alloc (.cells (WA .u8 32 E) 22)).alloc (.cells (WA .u8 12 T) 26)).alloc (.cells Tryz.zeroCells31 31)) (w.heap.size + 1 + 1) .u8 22 32 E := ArrAt.kept (heap_a43 w _ _ _ _) hb4
 have g3 : ArrAt (((((w.alloc (.cells (WA .u8 32 O) 22)).alloc (.cells (WA .u8 32 P) 22)).alloc (.cells (WA .u8 32 E) 22)).alloc (.cells (WA .u8 12 T) 26)).alloc (.cells Tryz.zeroCells31 31)) (w.heap.size + 1 + 1 + 1) .u8 26 12 T := ArrAt.kept (heap_a4 w _ _ _ _) hb4
 have gH : SAt (((((w.alloc (.cells (WA .u8 32 O) 22)).alloc (.cells (WA .u8 32 P) 22)).alloc (.cells (WA .u8 32 E) 22)).alloc (.cells (WA .u8 12 T) 26)).alloc (.cells Tryz.zeroCells31 31)) (w.heap.size + 1 + 1 + 1 + 1) 31 162 hanZ := by
  have h := heap_alloc_new ((((w.alloc (.cells (WA .u8 32 O) 22)).alloc (.cells (WA .u8 32 P) 22)).alloc (.cells (WA .u8 32 E) 22)).alloc (.cells (WA .u8 12 T) 26)) (.cells Tryz.zeroCells31 31)
  have e : (((((w.alloc (.cells (WA .u8 32 O) 22)).alloc (.cells (WA .u8 32 P) 22)).alloc (.cells (WA .u8 32 E) 22)).alloc (.cells (WA .u8 12 T) 26))).heap.size = w.heap.size + 1 + 1 + 1 + 1 := by simp
  rw [e] at h
  unfold SAt
  rw [← zeroHand]
  exact h
 have hB : Below w.heap.size w (((((w.alloc (.cells (WA .u8 32 O) 22)).alloc (.cells (WA .u8 32 P) 22)).alloc (.cells (WA .u8 32 E) 22)).alloc (.cells (WA .u8 12 T) 26)).alloc (.cells Tryz.zeroCells31 31)) := (((((Below.refl _ w).alloc (by simp) _).alloc (by simp) _).alloc (by simp; omega) _).alloc (by simp; omega) _).alloc (by simp; omega) _
 replace hE := hE.kept hB
 have HOO := Hid.mk hO
 have HEE := Hid.mk hEk
 clear hb4
 go_enter Tryz.func36, Tryz.ntmps36
 go_wp2_with fail
 refine wp_gen (fun v => ArrAt v w.heap.size .u8 22 32 O ∧ ArrAt v (w.heap.size + 1) .u8 22 32 P ∧ ArrAt v (w.heap.size + 1 + 1) .u8 22 32 E ∧ ArrAt v (w.heap.size + 1 + 1 + 1) .u8 26 12 T ∧ SAt v (w.heap.size + 1 + 1 + 1 + 1) 31 162 hanZ ∧ Below w.heap.size w v ∧ Env v) ⟨g0, g1, g2, g3, gH, hB, hE⟩ ?_
 clear g0 g1 g2 g3 gH hB hE
 rintro v0 ⟨g0, g1, g2, g3, gH, hB, hE⟩
 have HG0 : Hid (∀ u, Below v0.heap.size v0 u → ArrAt u w.heap.size .u8 22 32 O) := Hid.mk (fun u hu => g0.kept hu)
 have HG2 : Hid (∀ u, Below v0.heap.size v0 u → ArrAt u (w.heap.size + 1 + 1) .u8 22 32 E) := Hid.mk (fun u hu => g2.kept hu)
 have HP : Hid (∀ u, Below v0.heap.size v0 u → Fld.PrimeAt u) := Hid.mk (fun u hu => (hE.kept hu).2)
 have hHlt := gH.lt
 refine wp_region3 (Below v0.heap.size v0) v0.heap.size
   ([] : List (Nat × Cont))
   [kv (.agg (WA .u8 32 E)), kv (.agg (WA .u8 32 (pubF E))), kv (.agg (WA .u8 32 O)), kv (.agg (WA .u8 32 (pubF O))), kp (WA .u8 32 fun _ => 0) 22 6 (WA .u8 32 (pubF E)), kp (WA .u8 32 fun _ => 0) 22 7 (WA .u8 32 (pubF O)), .val fun _ => True, .val fun _ => True]
   [.none, .none, .none, .none, .none, .none, .own 4 1, .own 5 1]
   [some 18, some 19, some 20, some 21, some 12, some 13, none, none]
   [(7, .pointer (some ⟨(w.heap.size + 1 + 1), 0, none⟩)), (5, .pointer (some ⟨w.heap.size, 0, none⟩))]
   [[], [.slot 0], [], [.slot 2], [], [], [.slot 4, .cont 4 0, .slot 1], [.slot 5, .cont 5 0, .slot 3]]
   [.slot 4, .cont 4 1, .slot 5, .cont 5 1] [18, 19, 20, 21, 12, 13]
   rfl (by kernel_rfl) ⟨rfl, rfl, trivial⟩ (Below.refl _ v0).drew (Nat.le_refl _) trivial trivial (below_G (Nat.le_refl _) trivial)
   ⟨
    (fun Q aq ww own hS hBg fr kn => .inl ⟨trivial, fun K hK => wp_value (look_arr rfl isArr32 (HG2.out ww hS) fr.1) (hK _ _ ⟨Touch.refl _ _, rfl⟩)⟩),
    (fun Q aq ww own hS hBg fr kn => .inl ⟨trivial, fun K hK => stepc enterPub rfl (args1 kn.1) (Public_run E ww (HP.out ww hS) HEE.out) (fun w' hb => hK _ _ ⟨touch_below hb, rfl⟩)⟩),
    (fun Q aq ww own hS hBg fr kn => .inl ⟨trivial, fun K hK => wp_value (look_arr rfl isArr32 (HG0.out ww hS) fr.2.1) (hK _ _ ⟨Touch.refl _ _, rfl⟩)⟩),
    (fun Q aq ww own hS hBg fr kn => .inl ⟨trivial, fun K hK => stepc enterPub rfl (args1 kn.1) (Public_run O ww (HP.out ww hS) HOO.out) (fun w' hb => hK _ _ ⟨touch_below hb, rfl⟩)⟩),
    (fun Q aq ww own hS hBg fr kn => .inl ⟨trivial, fun K hK => act_alloc zero32 rfl (fun w' hb hg => hK _ _ ⟨touch_below hb, _, Nat.le_refl _, rfl, obIn hg⟩)⟩),
    (fun Q aq ww own hS hBg fr kn => .inl ⟨trivial, fun K hK => act_alloc zero32 rfl (fun w' hb hg => hK _ _ ⟨touch_below hb, _, Nat.le_refl _, rfl, obIn hg⟩)⟩),
    (fun Q aq ww own hS hBg fr kn => .inl ⟨trivial, fun K hK => act_arr rfl isArr32 kn.1.1 kn.2.2.1 (obAt kn.2.1) (fun w2 hg ho => hK _ _ ⟨touch_only ho, obIn hg, trivial⟩)⟩),
    (fun Q aq ww own hS hBg fr kn => .inl ⟨trivial, fun K hK => act_arr rfl isArr32 kn.1.1 kn.2.2.1 (obAt kn.2.1) (fun w2 hg ho => hK _ _ ⟨touch_only ho, obIn hg, trivial⟩)⟩),
    trivial⟩ ?_
 intro vs own v1 hb hs1 kn inj
 clear inj HG0 HG2 HP
 obtain ⟨k1, k2, k3, k4, -⟩ := kn
 obtain ⟨e12, hb12, _⟩ := k1
 obtain ⟨e13, hb13, _⟩ := k3
 change vs 12 = _ at e12
 change vs 13 = _ at e13
 have ge : ArrAt v1 (own 4) .u8 22 32 (pubF E) := obAt k2
 have gk : ArrAt v1 (own 5) .u8 22 32 (pubF O) := obAt k4
 clear k2 k4 hs1
 replace g0 := g0.kept hb
 replace g1 := g1.kept hb
 replace g2 := g2.kept hb
 replace g3 := g3.kept hb
 replace gH := gH.kept hb
 replace hE := hE.kept hb
 replace hB := hB.trans (hb.mono hB.size)
 clear hb
 
 simp only [putAll, Act.put, List.setIfInBounds_toArray, List.set_cons_zero, List.set_cons_succ, e12, e13]
 generalize own 4 = be at *
 generalize own 5 = bk at *
 clear e12 e13
 have hbe : w.heap.size + 1 + 1 + 1 + 1 + 1 ≤ be := by omega
 have hbk : w.heap.size + 1 + 1 + 1 + 1 + 1 ≤ bk := by omega
 clear hb12 hb13 hHlt
 go_wp2_with (refine ld_arr isArr32 g1 (by rfl) ?_)
 have hlt1 := ge.lt
 have hlt2 := gk.lt
 have hlt3 := gH.lt
 have hEt := hE.two
 have hBs := hB.size
 refine (hBeg _ hE).mono ?_
 rintro x v2 ⟨b, hbb, rfl, g, hb⟩
 have hb3 : 3 ≤ b := by omega
 have hbS : w.heap.size ≤ b := by omega
 replace g0 := g0.kept hb
 replace g1 := g1.kept hb
 replace g2 := g2.kept hb
 replace g3 := g3.kept hb
 replace gH := gH.kept hb
 replace ge := ge.kept hb
 replace gk := gk.kept hb
 replace hE := hE.kept hb
 replace hB := hB.trans (hb.mono hB.size)
 clear hb
 
 clear hBeg hEt hBs
 go_wp2_with (refine ld_arr isArr32 ge (by rfl) ?_)
 refine (ephemeralIn_run b H0 C0 _ (pubF E) _ hE hb3 g hH0 hC0 (pubF_b E 32)).mono ?_
 rintro x v3 ⟨rfl, g', t1⟩
 replace g0 := g0.tou t1 (by omega)
 replace g1 := g1.tou t1 (by omega)
 replace g2 := g2.tou t1 (by omega)
 replace g3 := g3.tou t1 (by omega)
 replace gH := gH.tou t1 (by omega)
 replace ge := ge.tou t1 (by omega)
 replace gk := gk.tou t1 (by omega)
 replace hE := hE.touch t1 hb3
 replace hB := belowT hB t1 hbS (Nat.le_refl _)
 clear t1
 
 clear g
 have g := g'
 clear g'
 have hC1 : Byts 32 (chn C0 (mkS 32 (pubF E)) 0) := chn_b _ _ 0 32
 have hH1 : Byts 32 (mixH H0 (mkS 32 (pubF E))) := mixH_b _ _ 32
 obtain ⟨C1, hC1e⟩ : ∃ X, chn C0 (mkS 32 (pubF E)) 0 = X := ⟨_, rfl⟩
 obtain ⟨H1, hH1e⟩ : ∃ X, mixH H0 (mkS 32 (pubF E)) = X := ⟨_, rfl⟩
 rw [hC1e] at g hC1
 rw [hH1e] at g hH1
 have hmf : ∀ (fn : Fn) (first cap : Array Value) (w : World), (Instr.makeFunc fn first cap).run Tryz.prog w = .ok (.func fn first cap) w := fun _ _ _ _ => rfl
 go_wp2_with (first | (refine ld_arr isArr32 g2 (by rfl) ?_) | (refine ld_arr isArr32 g1 (by rfl) ?_))
 refine (secretKey_run b H1 C1 _ E P _ hE g hC1 hEk hP hzE).mono ?_
 rintro x v4 ⟨rfl, g', t1⟩
 replace g0 := g0.tou t1 (by omega)
 replace g1 := g1.tou t1 (by omega)
 replace g2 := g2.tou t1 (by omega)
 replace g3 := g3.tou t1 (by omega)
 replace gH := gH.tou t1 (by omega)
 replace ge := ge.tou t1 (by omega)
 replace gk := gk.tou t1 (by omega)
 replace hE := hE.touch t1 hb3
 replace hB := belowT hB t1 hbS (Nat.le_refl _)
 clear t1
 
 clear g
 have g := g'
 clear g'
 obtain ⟨L, hLe⟩ : ∃ X, chn C1 (mkS 32 (shF E P)) = X := ⟨_, rfl⟩
 have hL : ∀ i, Byts 32 (L i) := fun i => hLe ▸ chn_b _ _ i 32
 rw [hLe] at g
 have hcv := str_back 32 bk 32 _ 32 (pubF O) gk.row (pubF_b O 32) rfl
 go_wp2_with fail
 refine (seal_run b H1 (L 0) (L 1) (mkS 32 (pubF O)) _ hE hb3 g hH1 (hL 1) (by rw [mkS_size]; omega)).mono ?_
 rintro x v5 ⟨rfl, g', t1⟩
 replace g0 := g0.tou t1 (by omega)
 replace g1 := g1.tou t1 (by omega)
 replace g2 := g2.tou t1 (by omega)
 replace g3 := g3.tou t1 (by omega)
 replace gH := gH.tou t1 (by omega)
 replace ge := ge.tou t1 (by omega)
 replace gk := gk.tou t1 (by omega)
 replace hE := hE.touch t1 hb3
 replace hB := belowT hB t1 hbS (Nat.le_refl _)
 clear t1
 
 clear g hcv
 have g := g'
 clear g'
 have hZas : (boxT (L 1) non0 (mkS 32 (pubF O)) (mkS 32 H1)).size ≤ 48 := by rw [boxT_size, mkS_size]; omega
 obtain ⟨Za, hZa⟩ : ∃ X, boxT (L 1) non0 (mkS 32 (pubF O)) (mkS 32 H1) = X := ⟨_, rfl⟩
 rw [hZa] at g hZas ⊢
 obtain ⟨H2, hH2e⟩ : ∃ X, mixH H1 Za = X := ⟨_, rfl⟩
 rw [hH2e] at g
 have hH2 : Byts 32 H2 := hH2e ▸ mixH_b _ _ 32
 go_wp2_with (first | (refine ld_arr isArr32 g0 (by rfl) ?_) | (refine ld_arr isArr32 g1 (by rfl) ?_))
 refine (secretKey_run b H2 (L 0) _ O P _ hE g (hL 0) hO hP hzO).mono ?_
 rintro x v6 ⟨rfl, g', t1⟩
 replace g0 := g0.tou t1 (by omega)
 replace g1 := g1.tou t1 (by omega)
 replace g2 := g2.tou t1 (by omega)
 replace g3 := g3.tou t1 (by omega)
 replace gH := gH.tou t1 (by omega)
 replace ge := ge.tou t1 (by omega)
 replace gk := gk.tou t1 (by omega)
 replace hE := hE.touch t1 hb3
 replace hB := belowT hB t1 hbS (Nat.le_refl _)
 clear t1
 
 clear g
 have g := g'
 clear g'
 obtain ⟨M, hMe⟩ : ∃ X, chn (L 0) (mkS 32 (shF O P)) = X := ⟨_, rfl⟩
 have hM : ∀ i, Byts 32 (M i) := fun i => hMe ▸ chn_b _ _ i 32
 rw [hMe] at g
 have hcv := str_back 12 (w.heap.size + 1 + 1 + 1) 12 _ 12 T g3.row hT rfl
 go_wp2_with fail
 refine (seal_run b H2 (M 0) (M 1) (mkS 12 T) _ hE hb3 g hH2 (hM 1) (by rw [mkS_size]; omega)).mono ?_
 rintro x v7 ⟨rfl, g', t1⟩
 replace g0 := g0.tou t1 (by omega)
 replace g1 := g1.tou t1 (by omega)
 replace g2 := g2.tou t1 (by omega)
 replace g3 := g3.tou t1 (by omega)
 replace gH := gH.tou t1 (by omega)
 replace ge := ge.tou t1 (by omega)
 replace gk := gk.tou t1 (by omega)
 replace hE := hE.touch t1 hb3
 replace hB := belowT hB t1 hbS (Nat.le_refl _)
 clear t1
 
 clear g hcv
 have g := g'
 clear g'
 have hZbs : (boxT (M 1) non0 (mkS 12 T) (mkS 32 H2)).size ≤ 48 := by rw [boxT_size, mkS_size]; omega
 obtain ⟨Zb, hZb⟩ : ∃ X, boxT (M 1) non0 (mkS 12 T) (mkS 32 H2) = X := ⟨_, rfl⟩
 rw [hZb] at g hZbs ⊢
 obtain ⟨H3, hH3e⟩ : ∃ X, mixH H2 Zb = X := ⟨_, rfl⟩
 rw [hH3e] at g
 have hH3 : Byts 32 H3 := hH3e ▸ mixH_b _ _ 32
 have lqg0 := g0.lt
 have lqg1 := g1.lt
 have lqg2 := g2.lt
 have lqg3 := g3.lt
 have lqgH := gH.lt
 have lqge := ge.lt
 have lqgk := gk.lt
 have lqg := g.lt
 have lqB := hB.size
 have lqE := hE.two
 
 go_wp2_with (first | (refine ld_arr isArr32 ge (by rfl) ?_) | (refine wl_value rfl (exec_iniB rfl (by rfl) (by rfl) (by rfl) (by rfl)) ?_) | (refine wl_allocI ?_; intro v8 gi0 hb; refine Hid.out ?_))
 replace g0 := g0.kept hb
 replace g1 := g1.kept hb
 replace g2 := g2.kept hb
 replace g3 := g3.kept hb
 replace gH := gH.kept hb
 replace ge := ge.kept hb
 replace gk := gk.kept hb
 replace g := g.kept hb
 replace hE := hE.kept hb
 replace hB := hB.trans (hb.mono hB.size)
 clear hb
 
 refine Hid.mk ?_
 go_wp2_with (refine st_st is_ini (iniV_one _ _ _ _) gi0 (by rfl) (by rfl) ?_; intro v9 gi o6; refine Hid.out ?_)
 replace g0 := g0.only o6 (by omega)
 replace g1 := g1.only o6 (by omega)
 replace g2 := g2.only o6 (by omega)
 replace g3 := g3.only o6 (by omega)
 replace gH := gH.only o6 (by omega)
 replace ge := ge.only o6 (by omega)
 replace gk := gk.only o6 (by omega)
 replace g := g.only o6 (by omega)
 replace hE := hE.only o6 (by omega)
 replace hB := hB.trans (o6.below (by omega))
 clear o6
 
 clear gi0
 refine Hid.mk ?_
 go_wp2_with fail
 obtain ⟨bi, hbi⟩ : ∃ bi, v7.heap.size = bi := ⟨_, rfl⟩
 rw [hbi] at gi
 have HI : Hid (∀ u, Touch (fun x => x = (w.heap.size + 1 + 1 + 1 + 1)) v9 u → SAt u bi 118 35 (iniV ix (pubF E) Za Zb)) := Hid.mk (fun u hu => gi.tou hu (by omega))
 have HG : Hid (∀ u, Touch (fun x => x = (w.heap.size + 1 + 1 + 1 + 1)) v9 u → KtAt u b H3 (M 0) (M 1)) := Hid.mk (fun u hu => g.block (hu.block b g.lt (by omega)))
 have HG1 : Hid (∀ u, Touch (fun x => x = (w.heap.size + 1 + 1 + 1 + 1)) v9 u → ArrAt u (w.heap.size + 1) .u8 22 32 P) := Hid.mk (fun u hu => g1.tou hu (by omega))
 have HG2 : Hid (∀ u, Touch (fun x => x = (w.heap.size + 1 + 1 + 1 + 1)) v9 u → ArrAt u (w.heap.size + 1 + 1) .u8 22 32 E) := Hid.mk (fun u hu => g2.tou hu (by omega))
 have HTX := Hid.mk (ini_text ix (pubF E) Za Zb (pubF_b E 32) (by omega) (by omega))
 rw [hbi]
 refine wp_region3 (Touch (fun x => x = (w.heap.size + 1 + 1 + 1 + 1)) v9) v9.heap.size
   [((w.heap.size + 1 + 1 + 1 + 1), once (SC 162 hanZ) 31 15 (SC 162 (hanV H3 (M 0) E (fun _ => 0) P ix 0)))]
   [kv (.agg (SC 35 (iniV ix (pubF E) Za Zb))), kv (.string (⟨#[1, 0, 0, 0]⟩ ++ fourT ix ++ mkS 32 (pubF E) ++ Za ++ Zb)), kv (.pointer (some ⟨b, 0, none⟩)), kv (.pointer (some ⟨b, 0, none⟩)), kv (.pointer (some ⟨b, 0, none⟩)), kv (.agg (WA .u8 32 H3)), kv (.pointer (some ⟨b, 0, none⟩)), kv (.pointer (some ⟨b, 0, none⟩)), kv (.pointer (some ⟨b, 32, none⟩)), kv (.agg (WA .u8 32 (M 0))), kv (.agg (WA .u8 32 E)), kv (.agg (WA .u8 32 P)), kv (.int .u32 ix), kv (.agg (SC 162 (hanV H3 (M 0) E (fun _ => 0) P ix 0))), kv (.string (⟨#[1, 0, 0, 0]⟩ ++ fourT ix ++ mkS 32 (pubF E) ++ Za ++ Zb)), .val fun _ => True]
   [.none, .none, .none, .none, .none, .none, .none, .none, .none, .none, .none, .none, .none, .none, .none, .base 0 1]
   [some 50, some 51, some 52, some 53, some 54, some 55, some 56, some 57, some 58, some 59, some 60, some 61, some 62, some 63, some 10, none]
   [(17, .pointer (some ⟨bi, 0, none⟩)), (14, .pointer (some ⟨b, 0, none⟩)), (7, .pointer (some ⟨(w.heap.size + 1 + 1), 0, none⟩)), (6, .pointer (some ⟨(w.heap.size + 1), 0, none⟩)), (4, .int .u32 ix), (11, .pointer (some ⟨(w.heap.size + 1 + 1 + 1 + 1), 0, none⟩))]
   [[], [.slot 0], [], [.slot 2], [.slot 3], [.slot 4], [], [.slot 6], [.slot 7], [.slot 8], [], [], [], [.slot 5, .slot 9, .slot 10, .slot 11, .slot 12], [.slot 1], [.slot 13, .base 0 0]]
   [.base 0 1, .slot 14] [50, 51, 52, 53, 54, 55, 56, 57, 58, 59, 60, 61, 62, 63, 10]
   rfl (by kernel_rfl) ⟨rfl, rfl, rfl, rfl, rfl, rfl, trivial⟩ (belT (w.heap.size + 1 + 1 + 1 + 1) (Below.refl _ v9).drew) (Nat.le_refl _) ⟨⟨gH.lt, obIn gH⟩, trivial⟩ ⟨trivial, trivial⟩ touch_G
   ⟨
    (fun Q aq ww own hS hBg fr kn => .inl ⟨trivial, fun K hK => wp_value (look_st rfl is_ini (HI.out ww hS) fr.1) (hK _ _ ⟨Touch.refl _ _, rfl⟩)⟩),
    (fun Q aq ww own hS hBg fr kn => .inl ⟨trivial, fun K hK => stepc enterIniT rfl (args1 kn.1) (HTX.out ww) (fun w' hb => hK _ _ ⟨touch_below hb, rfl⟩)⟩),
    (fun Q aq ww own hS hBg fr kn => .inl ⟨trivial, fun K hK => wp_value (exec_move rfl fr.2.1) (hK _ _ ⟨Touch.refl _ _, rfl⟩)⟩),
    (fun Q aq ww own hS hBg fr kn => .inl ⟨trivial, fun K hK => wp_value (exec_nilc rfl kn.1) (hK _ _ ⟨Touch.refl _ _, rfl⟩)⟩),
    (fun Q aq ww own hS hBg fr kn => .inl ⟨trivial, fun K hK => wp_value (exec_fk (k := 0) rfl kn.1 (by decide)) (hK _ _ ⟨Touch.refl _ _, rfl⟩)⟩),
    (fun Q aq ww own hS hBg fr kn => .inl ⟨trivial, fun K hK => wp_value (exec_ldmid rfl isArr32 kn.1 (HG.out ww hS).h) (hK _ _ ⟨Touch.refl _ _, rfl⟩)⟩),
    (fun Q aq ww own hS hBg fr kn => .inl ⟨trivial, fun K hK => wp_value (exec_move rfl fr.2.1) (hK _ _ ⟨Touch.refl _ _, rfl⟩)⟩),
    (fun Q aq ww own hS hBg fr kn => .inl ⟨trivial, fun K hK => wp_value (exec_nilc rfl kn.1) (hK _ _ ⟨Touch.refl _ _, rfl⟩)⟩),
    (fun Q aq ww own hS hBg fr kn => .inl ⟨trivial, fun K hK => wp_value (exec_fk (k := 1) rfl kn.1 (by decide)) (hK _ _ ⟨Touch.refl _ _, rfl⟩)⟩),
    (fun Q aq ww own hS hBg fr kn => .inl ⟨trivial, fun K hK => wp_value (exec_ldmid rfl isArr32 kn.1 (HG.out ww hS).c) (hK _ _ ⟨Touch.refl _ _, rfl⟩)⟩),
    (fun Q aq ww own hS hBg fr kn => .inl ⟨trivial, fun K hK => wp_value (look_arr rfl isArr32 (HG2.out ww hS) fr.2.2.1) (hK _ _ ⟨Touch.refl _ _, rfl⟩)⟩),
    (fun Q aq ww own hS hBg fr kn => .inl ⟨trivial, fun K hK => wp_value (look_arr rfl isArr32 (HG1.out ww hS) fr.2.2.2.1) (hK _ _ ⟨Touch.refl _ _, rfl⟩)⟩),
    (fun Q aq ww own hS hBg fr kn => .inl ⟨trivial, fun K hK => wp_value (exec_move rfl fr.2.2.2.2.1) (hK _ _ ⟨Touch.refl _ _, rfl⟩)⟩),
    (fun Q aq ww own hS hBg fr kn => .inl ⟨trivial, fun K hK => wp_value (exec_hanB rfl kn.1 kn.2.1 kn.2.2.1 kn.2.2.2.1 kn.2.2.2.2.1) (hK _ _ ⟨Touch.refl _ _, rfl⟩)⟩),
    (fun Q aq ww own hS hBg fr kn => .inl ⟨trivial, fun K hK => wp_value (exec_assign rfl kn.1) (hK _ _ ⟨Touch.refl _ _, rfl⟩)⟩),
    (fun Q aq ww own hS hBg fr kn => .inl ⟨trivial, fun K hK => act_st7 rfl isHand (hanV_one _ _ _ _ _ _ _) fr.2.2.2.2.2.1 kn.1 (obAt kn.2.1) (fun w2 hg ho => hK _ _ ⟨⟨touch_only ho, obIn hg⟩, trivial⟩)⟩),
    trivial⟩ ?_
 intro vs own v10 hT1 hsz kn inj
 clear inj hsz
 have gH6 : SAt v10 (w.heap.size + 1 + 1 + 1 + 1) 31 162 (hanV H3 (M 0) E (fun _ => 0) P ix 0) := obAt kn.1
 have e10 : vs 10 = _ := kn.2.1
 clear kn HG HG1 HG2 HI HTX
 replace hB := belowT hB hT1 (by omega) (Nat.le_refl _)
 simp only [putAll, Act.put, List.setIfInBounds_toArray, List.set_cons_zero, List.set_cons_succ, e10]
 go_wp2_with fail
 refine bodyPost_ret (v := .tuple #[.string (⟨#[1, 0, 0, 0]⟩ ++ fourT ix ++ mkS 32 (pubF E) ++ Za ++ Zb), .agg (SC 162 (hanV H3 (M 0) E (fun _ => 0) P ix 0))]) (res_tc Tryz.results36 isHand gH6 (by rfl) (by rfl)) rfl ⟨?_, hB⟩
 simp only [begM, bgH3, bgB, bgH2, bgL2, bgA, bgL1, hC1e, hH1e, hLe, hZa, hH2e, hMe, hZb, hH3e]
end Go.Proofs.YthghcjepdhkfdaaGreatDoor

