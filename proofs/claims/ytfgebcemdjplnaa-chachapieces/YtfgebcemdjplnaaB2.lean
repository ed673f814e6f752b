/-
  Own text. Arrays of numbers in memory; what keySquare of package chacha gives.
-/
import Derived.Test.YtfgebcemdjplnaaB1
namespace Go.Proofs.Ytfgebcemdjplnaa
open Go.RowKit Go.Proofs
/-- Block b is an array of n numbers. -/
def ArrAt (w : World) (b : Nat) (k : IntKind) (t : TypeId) (n : Nat) (s : Nat → Int) : Prop := w.heap[b]? = some (.cells (WA k n s) t (0, 0))
theorem ArrAt.row {w : World} {b : Nat} {k : IntKind} {t : TypeId} {n : Nat} {s : Nat → Int} (h : ArrAt w b k t n s) : RowAt w b k t n s := RowAt.of h
theorem ArrAt.cell {w : World} {b : Nat} {k : IntKind} {t : TypeId} {n : Nat} {s : Nat → Int} (h : ArrAt w b k t n s) (i : Nat) (hi : i < n) : w.cell? ⟨b, i, none⟩ = some (.int k (s i)) := h.row.cell i hi
theorem ArrAt.free {w : World} {b : Nat} {k : IntKind} {t : TypeId} {n : Nat} {s : Nat → Int} (h : ArrAt w b k t n s) (i : Nat) : w.frozen? ⟨b, i, none⟩ = false := frozen_of_row w b i _ _ h
theorem ArrAt.lt {w : World} {b : Nat} {k : IntKind} {t : TypeId} {n : Nat} {s : Nat → Int} (h : ArrAt w b k t n s) : b < w.heap.size := heap_lt h
theorem ArrAt.block {w w' : World} {b : Nat} {k : IntKind} {t : TypeId} {n : Nat} {s : Nat → Int} (h : ArrAt w b k t n s) (e : w'.heap[b]? = w.heap[b]?) : ArrAt w' b k t n s := e.trans h
theorem ArrAt.below {B : Nat} {w w' : World} {b : Nat} {k : IntKind} {t : TypeId} {n : Nat} {s : Nat → Int} (h : ArrAt w b k t n s) (hb : Below B w w') (hB : b < B) : ArrAt w' b k t n s := h.block (hb.block b hB)
theorem ArrAt.kept {w w' : World} {b : Nat} {k : IntKind} {t : TypeId} {n : Nat} {s : Nat → Int} (h : ArrAt w b k t n s) (hb : Below w.heap.size w w') : ArrAt w' b k t n s := h.block (hb.block b h.lt)
theorem ArrAt.only {g : Nat} {w w' : World} {b : Nat} {k : IntKind} {t : TypeId} {n : Nat} {s : Nat → Int} (h : ArrAt w b k t n s) (ho : Only g w w') (hB : b ≠ g) : ArrAt w' b k t n s := h.block (ho.block b hB)
theorem ArrAt.alloc {w : World} {b : Nat} {k : IntKind} {t : TypeId} {n : Nat} {s : Nat → Int} (h : ArrAt w b k t n s) (o : Obj) : ArrAt (w.alloc o) b k t n s := h.block (Below.heap_alloc _ _ _ h.lt)
theorem ArrAt.drew {w : World} {b : Nat} {k : IntKind} {t : TypeId} {n : Nat} {s : Nat → Int} (h : ArrAt w b k t n s) : ArrAt w.drew b k t n s := h
theorem ArrAt.other {w : World} {b g i : Nat} {k : IntKind} {t : TypeId} {n : Nat} {s : Nat → Int} (h : ArrAt w b k t n s) (v : Value) (hB : b ≠ g) : ArrAt (w.setCell ⟨g, i, none⟩ v) b k t n s := h.only only_set hB
theorem ArrAt.set {w : World} {b : Nat} {k : IntKind} {t : TypeId} {n : Nat} {s : Nat → Int} (h : ArrAt w b k t n s) (i : Nat) (v : Int) (hi : i < n) : ArrAt (w.setCell ⟨b, i, none⟩ (.int k v)) b k t n (upd s i v) := by
  have := heap_setCell_same w b i _ t (.int k v) h
  rw [WA_set k n s i v hi] at this
  exact this
theorem ArrAt.congr {w : World} {b : Nat} {k : IntKind} {t : TypeId} {n : Nat} {s s' : Nat → Int} (h : ArrAt w b k t n s) (e : ∀ i, i < n → s i = s' i) : ArrAt w b k t n s' := by
  unfold ArrAt; rw [← WA_congr e]; exact h
theorem putWord_arr {t : TypeId} (b n : Nat) (s : Nat → Int) (i : Nat) (v : Int) (w : World) (hR : ArrAt w b .u8 t n s) (hv : W32 v) (hi : 4 * i + 4 ≤ n) (hc : n ≤ 1000000) :
    Calls Try.prog 28 #[.slice (some ⟨b, 0, none⟩) n n, .int .i64 (i : Int), .int .u32 v] w fun e w' => e = .returned (.tuple #[]) ∧ ArrAt w' b .u8 t n (putw s i v) ∧ Only b w w' := by
  refine (putWord_walk b n n i v _ _ _ _ w (hR.cell _ (by omega)) (hR.cell _ (by omega)) (hR.cell _ (by omega)) (hR.cell _ (by omega)) (hR.free _) (hR.free _) (hR.free _) (hR.free _) hv hi (Nat.le_refl _) hc).mono ?_
  rintro e w' ⟨rfl, rfl⟩
  exact ⟨rfl, (((hR.set _ _ (by omega)).set _ _ (by omega)).set _ _ (by omega)).set _ _ (by omega), only_set.trans (only_set.trans (only_set.trans only_set))⟩
/-- An array type of n cells. -/
def IsArr (ty n : Nat) : Prop := ∃ m e, Try.prog.underlying ty = some (.array m e) ∧ (Try.prog.info? ty).map (·.size) = some n
theorem isArr32 : IsArr 29 32 := ⟨_, _, Try.underlying29, by kernel_rfl⟩
theorem isArr12 : IsArr 30 12 := ⟨_, _, Try.underlying30, by kernel_rfl⟩
theorem isArr16 : IsArr 31 16 := ⟨_, _, Try.underlying31, by kernel_rfl⟩
theorem isArr64 : IsArr 33 64 := ⟨_, _, Try.underlying33, by kernel_rfl⟩
theorem isSq : IsArr 44 16 := ⟨_, _, Try.underlying44, by kernel_rfl⟩
theorem WA_one (k : IntKind) (n : Nat) (s : Nat → Int) : (WA k n s).all (·.oneCell') = true := by
  simp [WA, Value.oneCell']
theorem ld_arr {ops : Array Oper} {rest : List Oper} {d : Option Tmp} {x : Operand} {t ty : TypeId} {ps : String} {af : Array Edge} {a : Act} {w : World} {Q : Exit → Act → World → Prop} {g n : Nat} {k : IntKind} {s : Nat → Int}
    (hA : IsArr ty n) (hg : ArrAt w g k ty n s) (hx : a.eval x = .pointer (some ⟨g, 0, none⟩)) (h : wpList Try.prog ops Q rest (a.put d (.agg (WA k n s))) w) : wpList Try.prog ops Q ({ dst := d, op := .load ty x, type := t, pos := ps, after := af, guard := none } :: rest) a w := by
  obtain ⟨m, e, h1, h3⟩ := hA
  exact wpList_load_row rfl ty x rfl g hx ty _ (0, 0) _ hg h1 rfl (by rw [WA_size]; exact h3) h
theorem st_arr {ops : Array Oper} {rest : List Oper} {d : Option Tmp} {x y : Operand} {t ty : TypeId} {ps : String} {af : Array Edge} {a : Act} {w : World} {Q : Exit → Act → World → Prop} {g n : Nat} {k k' : IntKind} {s s' : Nat → Int}
    (hA : IsArr ty n) (hg : ArrAt w g k' ty n s') (hx : a.eval x = .pointer (some ⟨g, 0, none⟩)) (hy : a.eval y = .agg (WA k n s))
    (h : ∀ w2, ArrAt w2 g k ty n s → Only g w w2 → wpList Try.prog ops Q rest (a.put d undef) w2) : wpList Try.prog ops Q ({ dst := d, op := .store ty x y, type := t, pos := ps, after := af, guard := none } :: rest) a w := by
  obtain ⟨_, _, _, h3⟩ := hA
  exact st_row rfl ty x y rfl g _ hx hy ty _ hg (by rw [WA_size]; exact h3) (by rw [WA_size, WA_size]) (WA_one k n s) h
theorem res_arr {fn : Func} {p : Tmp} {ty : TypeId} (h : fn.results = #[.cell p ty]) {tmps : Array Value} {w : World} {g n : Nat} {k : IntKind} {s : Nat → Int} (hA : IsArr ty n) (hg : ArrAt w g k ty n s) (hp : tmps.getD p undef = .pointer (some ⟨g, 0, none⟩)) :
    (results fn tmps).run Try.prog w = .ok (.agg (WA k n s)) w := by
  obtain ⟨m, e, h1, h3⟩ := hA
  exact results_cell_row h tmps w g ty _ (0, 0) _ hp hg h1 rfl (by rw [WA_size]; exact h3)
end Go.Proofs.Ytfgebcemdjplnaa
