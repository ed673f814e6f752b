/-
  Own text. Small laws for FragWhole: rows of numbers that are left, what lies in no packet's row, a number picked.
-/
import Derived.Test.YthnlfjkpiohooaaGT
import Derived.Test.YthnlfjkpiohooaaInvG
namespace Go.Proofs.Ythnlfjkpiohooaa
open Go.RowKit Go.Proofs Go.Lib
set_option maxRecDepth 100000
def isI64 : Value → Bool
  | .int .i64 _ => true
  | _ => false
def isStr : Value → Bool
  | .string _ => true
  | _ => false
theorem no_ex : (List.range 45).all (fun j => !(isI64 (pkV zeroP (.slice none 0 0) j) && isStr (pkV zeroP (.slice none 0 0) (j + 1)))) = true := by kernel_rfl
/-- A zero packet's row is no row of headers. -/
theorem exK_zero {w : World} {g : Nat} {v : Value} {l : List Ex} {ty : TypeId} (h : ExAt w v l) (hs : SAt w g ty 46 (pkV zeroP (.slice none 0 0))) : exK v ≠ some g := by
  intro hk
  obtain ⟨a, cap, rfl, h⟩ := h
  cases l with
  | nil => cases a <;> simp [exK] at hk
  | cons x l =>
    obtain ⟨ad, rfl, _, h1, h2⟩ := h 0 x rfl
    have e : ad.block = g := by simpa [exK] using hk
    obtain ⟨b, off, sp⟩ := ad
    have e : b = g := e
    subst e
    have hsp : sp = none := by
      cases sp with
      | none => rfl
      | some n =>
        have h1 : World.cell? w ((⟨b, off, some n⟩ : Addr).add 0) = _ := h1
        rw [Addr.add_zero'] at h1
        unfold World.cell? at h1
        unfold SAt at hs
        simp [hs] at h1
    subst hsp
    rw [Addr.add_lit] at h1 h2
    have h1 : w.cell? ⟨b, off, none⟩ = _ := h1
    have h2 : w.cell? ⟨b, off + 1, none⟩ = _ := h2
    rcases Nat.lt_or_ge (off + 1) 46 with hl | hl
    · rw [hs.at off (by omega)] at h1
      rw [hs.at (off + 1) hl] at h2
      have h3 := List.all_eq_true.1 no_ex off (List.mem_range.2 (by omega))
      injection h1 with h1
      injection h2 with h2
      rw [h1, h2] at h3
      cases h3
    · rw [cell_of_row w b (off + 1) _ _ _ hs, Array.getElem?_eq_none (by rw [SC_size]; omega)] at h2
      cases h2
/-- Numbers in a row. -/
def LsAt (w : World) (g : Nat) (L : List Nat) : Prop := RowAt w g .i64 3 L.length (fun j => ((L.getD j 0 : Nat) : Int))
theorem LsAt.cell {w : World} {g : Nat} {L : List Nat} (h : LsAt w g L) {j : Nat} (hj : j < L.length) : w.cell? ⟨g, j, none⟩ = some (.int .i64 ((L.getD j 0 : Nat) : Int)) := RowAt.cell h j hj
def nnW (P : List Nat) : List Value := nums .i64 P.length (fun i => ((P.getD i 0 : Nat) : Int))
def OwnL (w : World) (B : Nat) (v : Value) (P : List Nat) : Prop := w.ownsRow B 3 1 v P.length (nnW P)
theorem OwnL.nil (w : World) (B : Nat) : OwnL w B (.slice none 0 0) [] := ⟨rfl, .inl ⟨rfl, rfl⟩⟩
theorem OwnL.shape {w : World} {B : Nat} {v : Value} {P : List Nat} (h : OwnL w B v P) : ∃ p c, v = .slice p P.length c := by
  obtain ⟨p, c, e, _⟩ := ownM_shape h
  exact ⟨p, c, e⟩
theorem OwnL.row {w : World} {B : Nat} {v : Value} {P : List Nat} (h : OwnL w B v P) (hp : 0 < P.length) : ∃ g c, v = .slice (some ⟨g, 0, none⟩) P.length c ∧ B ≤ g ∧ P.length ≤ c ∧ LsAt w g P := own_row h hp
theorem nums_cat14 {P R : List Nat} : nums .i64 (P.length + R.length) (cat P.length (fun i => ((P.getD i 0 : Nat) : Int)) (fun i => ((R.getD i 0 : Nat) : Int))) = nnW (P ++ R) := by
  unfold nnW
  rw [List.length_append]
  refine nums_congr (fun i hi => ?_)
  unfold cat
  by_cases e : i < P.length
  · rw [if_pos e]
    show ((P.getD i 0 : Nat) : Int) = (((P ++ R).getD i 0 : Nat) : Int)
    rw [List.getD_eq_getElem?_getD, List.getD_eq_getElem?_getD, List.getElem?_append_left e]
  · rw [if_neg e]
    show ((R.getD (i - P.length) 0 : Nat) : Int) = (((P ++ R).getD i 0 : Nat) : Int)
    rw [List.getD_eq_getElem?_getD, List.getD_eq_getElem?_getD, List.getElem?_append_right (by omega)]
section
variable {a : Act} {o : Oper} {w : World} {x y : Operand} {ops : Array Oper} {rest : List Oper} {Q : Exit → Act → World → Prop}
/-- append of numbers that lie in a row. -/
theorem ap_ls {s z : Operand} (ho : o.op = .call { callee := .builtin .append, args := #[s, z], argTypes := #[37, 37] }) (hgd : o.guard = none)
    {B g off n c : Nat} {P R : List Nat} {v : Value} (hs : a.eval s = v) (hx : a.eval z = .slice (some ⟨g, off, none⟩) n c) (hn : n = R.length) (hD : OwnL w B v P) (hc : ∀ j, j < R.length → w.cell? ⟨g, off + j, none⟩ = some (.int .i64 ((R.getD j 0 : Nat) : Int))) (hl : P.length + R.length < 1000000) (hB : B ≤ w.heap.size)
    (h : ∀ v' w', OwnL w' B v' (P ++ R) → Below B w w' → wpList Try.prog ops Q rest (a.put o.dst v') w') : wpList Try.prog ops Q (o :: rest) a w := by
  subst hn
  refine ap_own hgd s z 37 3 .i64 8 Try.underlying37 infoInt (by omega) ho (r := fun j => ((R.getD j 0 : Nat) : Int)) hs hD hx hc hl hB (fun v' w' h1 h2 => h v' w' ?_ h2)
  unfold OwnL
  rw [← nums_cat14, List.length_append]
  exact h1
theorem slN_hi (p : Option Addr) (m c k : Nat) (w : World) (hk : k ≤ m) (hm : m ≤ c) : (Instr.sliceAt 37 (.slice p m c) none (some (.int .i64 (k : Int))) none).run Try.prog w = .ok (.slice p k c) w := by
  have h2 : (k : Int) ≤ (c : Int) := by omega
  cases p <;> simp [go_sem, h2]
theorem slN_lo (g m c k : Nat) (hk : k ≤ m) (hm : m ≤ c) : ∃ q cq, (∀ w, (Instr.sliceAt 37 (.slice (some ⟨g, 0, none⟩) m c) (some (.int .i64 (k : Int))) none none).run Try.prog w = .ok (.slice (some ⟨g, q, none⟩) (m - k) cq) w) ∧ (k < m → q = k) := by
  have h2 : (k : Int) ≤ (m : Int) := by omega
  by_cases e : c = k
  · exact ⟨0, c - k, fun w => by simp [go_sem, h2, e], fun h => by omega⟩
  · exact ⟨k, c - k, fun w => by simp [go_sem, h2, e], fun _ => rfl⟩
theorem run_mkN (n : Nat) (hn : n ≤ 65536) (w : World) : (Instr.makeSlice 37 (.int .i64 (n : Int)) (.int .i64 (n : Int))).run Try.prog w = .ok (.slice (some ⟨w.heap.size, 0, none⟩) n n) (w.alloc (.cells (WA .i64 n fun _ => 0) 3)) := by
  have hm := run_make_row' (P := Try.prog) 37 3 (.int .i64 0) 8 Try.underlying37 infoInt rfl .i64 .i64 n (by omega) (by omega) w
  rw [made_WA] at hm
  exact hm
theorem wl_mkN {n : Nat} (ho : o.op = .makeSlice 37 x y) (hw : Region.wanted o (yielded ops a.tmps) = true) (hx : a.eval x = .int .i64 (n : Int)) (hy : a.eval y = .int .i64 (n : Int)) (hn : n ≤ 65536)
    (h : ∀ g w', w.heap.size ≤ g → RowAt w' g .i64 3 n (fun _ => 0) → Below w.heap.size w w' → wpList Try.prog ops Q rest (a.put o.dst (.slice (some ⟨g, 0, none⟩) n n)) w') : wpList Try.prog ops Q (o :: rest) a w := by
  have hr := run_mkN n hn w
  refine wl_act hw ?_
  unfold Oper.wp execOp
  simp only [ho, hx, hy, Sem.run_bind, hr, Result.andThen_ok, Sem.run_pure, Oper.upon]
  exact h _ _ (Nat.le_refl _) (RowAt.of (heap_alloc_new w _)) ((Below.refl _ _).alloc (Nat.le_refl _) _)
theorem wl_stN {g n i : Nat} {s : Nat → Int} {v : Int} {ty : TypeId} (ho : o.op = .store 3 x y) (hw : Region.wanted o (yielded ops a.tmps) = true) (hg : RowAt w g .i64 ty n s) (hx : a.eval x = .pointer (some ⟨g, i, none⟩)) (hy : a.eval y = .int .i64 v) (hi : i < n)
    (h : ∀ w2, RowAt w2 g .i64 ty n (upd s i v) → Only g w w2 → wpList Try.prog ops Q rest (a.put o.dst undef) w2) : wpList Try.prog ops Q (o :: rest) a w := by
  refine wl_act hw ?_
  have hc := hg.cell i hi
  have hf := hg.free i hi
  have hr : (Instr.storeAt 3 (.pointer (some ⟨g, i, none⟩)) (.int .i64 v)).run Try.prog w = .ok () (w.setCell ⟨g, i, none⟩ (.int .i64 v)) := by simp [go_sem, hc, hf]
  unfold Oper.wp execOp
  simp only [ho, hx, hy, Sem.run_bind, hr, Result.andThen_ok, Sem.run_pure, Oper.upon]
  exact h _ (hg.set i v) only_set
theorem exec_ixLs (ho : o.op = .indexAddr 37 x y) {b n c i : Nat} (hx : a.eval x = .slice (some ⟨b, 0, none⟩) n c) (hy : a.eval y = .int .i64 (i : Int)) (hi : i < n) : (execOp a.eval o).run Try.prog w = .ok (.value (.pointer (some ⟨b, i, none⟩))) w := by
  have h := exec_ixN (w := w) ho hx hy hi
  rw [Addr.add_lit, Nat.zero_add] at h
  exact h
end
/-- What is left first: all. -/
theorem ls_all {w : World} {g m : Nat} {s : Nat → Int} (h : RowAt w g .i64 3 m s) (e : ∀ i, i < m → s i = (i : Int)) : LsAt w g (List.range m) := by
  unfold LsAt
  rw [List.length_range]
  refine h.mono (Nat.le_refl _) (fun i hi => ?_)
  rw [e i hi, List.getD_eq_getElem?_getD, List.getElem?_range hi]
  rfl
theorem ls_get {L : List Nat} {a : Nat} (ha : a < L.length) : L.getD a 0 ∈ L := by
  rw [List.getD_eq_getElem?_getD, List.getElem?_eq_getElem ha]
  exact List.getElem_mem ha
theorem two_some {b : Bx} {t : Int} {f g : Fam} {x y : List Pk} (h : TwoAt b t f g x y) (hx : x ≠ []) : 1 ≤ b.hs.length := by
  obtain ⟨_, _, s, r, _, h⟩ := h
  cases x with
  | nil => exact absurd rfl hx
  | cons p l => rcases h with h | h <;> rw [h] <;> simp [hpF] <;> omega
/-- A box with the pieces of two packets, as it stands behind what came since u. -/
def BxP (N : Nat → Prop) (g : Nat) (t : Int) (F G : Fam) (X Y : List Pk) (bm : Int) (u w : World) : Prop := ∃ mv bg cs b, BoxAt w 0 N g mv b bg cs ∧ TwoAt b t F G X Y ∧ bg ≤ bm ∧ Spares N u w
section
variable {N : Nat → Prop} {g gx : Nat} {t bm : Int} {F G : Fam} {X Y : List Pk} {u v w w' : World}
theorem BxP.kept (h : BxP N g t F G X Y bm u w) (hb : Below w.heap.size w w') : BxP N g t F G X Y bm u w' := by
  obtain ⟨mv, bg, cs, b, h1, h2, h3, h4⟩ := h
  exact ⟨mv, bg, cs, b, h1.kept hb, h2, h3, h4.trans (spares_below hb)⟩
theorem BxP.grow (h : BxP N g t F G X Y bm u w) (hx : w.heap.size ≤ gx) : BxP (fun k => N k ∨ k = gx) g t F G X Y bm u w := by
  obtain ⟨mv, bg, cs, b, h1, h2, h3, h4⟩ := h
  have hz := h4.size
  exact ⟨mv, bg, cs, b, h1.more (fun k hk => hk.imp_right (fun e => by omega)), h2, h3, Touch.mono h4 (fun k hk hn hk2 => hk2.elim hn (fun e => by omega))⟩
theorem BxP.only (h : BxP (fun k => N k ∨ k = gx) g t F G X Y bm u w) (ho : Only gx w w') (hn : ¬ N gx) : BxP N g t F G X Y bm u w' := by
  obtain ⟨mv, bg, cs, b, h1, h2, h3, h4⟩ := h
  refine ⟨mv, bg, cs, b, (h1.awayN (touch_only ho) (fun k e => .inr e)).more (fun k hk => .inl (.inl hk)), h2, h3, ?_⟩
  exact Spares.trans (N := N) (Touch.mono h4 (fun k _ hn hk => hn (.inl hk))) (spares_only ho hn)
theorem BxP.since (h : BxP N g t F G X Y bm v w) (hb : Below u.heap.size u v) : BxP N g t F G X Y bm u w := by
  obtain ⟨mv, bg, cs, b, h1, h2, h3, h4⟩ := h
  exact ⟨mv, bg, cs, b, h1, h2, h3, (spares_below hb).trans h4⟩
theorem BxP.block (h : BxP N g t F G X Y bm u w) {k : Nat} (hk : N k) (hu : k < u.heap.size) : w.heap[k]? = u.heap[k]? := by
  obtain ⟨_, _, _, _, _, _, _, h4⟩ := h
  exact h4.block k hu (fun hn => hn hk)
theorem BxP.size (h : BxP N g t F G X Y bm u w) : u.heap.size ≤ w.heap.size := by
  obtain ⟨_, _, _, _, _, _, _, h4⟩ := h
  exact h4.size
end
/-- What is told: the packet, if it is whole. -/
def tkG (z : Bool) (P : Pk) (N : Nat → Prop) (Q : Pk) (v : Value) (w : World) : Prop := v.oneCell' = true ∧ (z = true → Q = P ∧ ExAt w v P.exts ∧ ∀ k, exK v = some k → ¬ N k)
section
variable {z : Bool} {P Q : Pk} {N : Nat → Prop} {v : Value} {w w' : World} {gx : Nat}
theorem tkG.kept (h : tkG z P N Q v w) (hb : Below w.heap.size w w') : tkG z P N Q v w' := ⟨h.1, fun hz => ⟨(h.2 hz).1, (h.2 hz).2.1.kept hb, (h.2 hz).2.2⟩⟩
theorem tkG.less {N' : Nat → Prop} (h : tkG z P N' Q v w) (hN : ∀ k, N k → N' k) : tkG z P N Q v w := ⟨h.1, fun hz => ⟨(h.2 hz).1, (h.2 hz).2.1, fun k hk hn => (h.2 hz).2.2 k hk (hN k hn)⟩⟩
theorem tkG.only (h : tkG z P N Q v w) (ho : Only gx w w') (hs : SAt w gx 27 46 (pkV zeroP (.slice none 0 0))) : tkG z P N Q v w' :=
  ⟨h.1, fun hz => ⟨(h.2 hz).1, (h.2 hz).2.1.blk (fun k hk => ho.block k (fun e => exK_zero (h.2 hz).2.1 hs (by rw [← e]; exact hk))), (h.2 hz).2.2⟩⟩
end
/-- Ahead of the call; the row made. -/
def mdA (u : World) (x : Value) (w : World) : Prop := ∃ gx, x = .pointer (some ⟨gx, 0, none⟩) ∧ u.heap.size ≤ gx ∧ SAt w gx 27 46 (pkV zeroP (.slice none 0 0)) ∧ Below u.heap.size u w
/-- Behind it; the row made. -/
def mdB (N : Nat → Prop) (g : Nat) (t : Int) (F G : Fam) (X Y : List Pk) (bm : Int) (u : World) (x : Value) (w : World) : Prop := ∃ gx, x = .pointer (some ⟨gx, 0, none⟩) ∧ u.heap.size ≤ gx ∧ SAt w gx 27 46 (pkV zeroP (.slice none 0 0)) ∧ BxP (fun k => N k ∨ k = gx) g t F G X Y bm u w
/-- Behind the store. -/
def mdC (z : Bool) (P : Pk) (N : Nat → Prop) (g : Nat) (t : Int) (F G : Fam) (X Y : List Pk) (bm : Int) (u : World) (x : Value) (w : World) : Prop := ∃ gx Q v, x = .pointer (some ⟨gx, 0, none⟩) ∧ u.heap.size ≤ gx ∧ SAt w gx 27 46 (pkV Q v) ∧ tkG z P N Q v w ∧ BxP N g t F G X Y bm u w
section
variable {z : Bool} {P : Pk} {N : Nat → Prop} {g c : Nat} {t bm : Int} {F G : Fam} {X Y : List Pk} {u : World} {o : Oper} {V : Nat → Value} {base : List (Nat × Value)} {ds : List (Option Nat)} {wt : List (List Nat)} {i m s : Nat} {x : Operand}
theorem preA_val (h : ∀ (a : Act) (w : World), Below u.heap.size u w → Holds a base → KnVD V ds a (wt.getD i []) → (execOp a.eval o).run Try.prog w = .ok (.value (V i)) w) : PreA (Below u.heap.size u) (mdA u) V base ds wt i o :=
  fun _ a w hA hb kn _ hK => wp_value (h a w (hA.elim id (fun ⟨_, _, _, _, _, h⟩ => h)) hb kn) hK
theorem postA_of {Bp Cp : World → Prop} {B2 C2 : Value → World → Prop} {φ : Nat → Value → World → Prop} (h : PostD s Bp Cp φ base ds wt i o) (hs : i ≠ s) : PostA s m B2 C2 φ base ds wt i o := ⟨fun _ _ => h.1 hs, fun e => absurd e hs⟩
theorem postA_m {B2 C2 : Value → World → Prop} {φ : Nat → Value → World → Prop} (hs : m ≠ s) : PostA s m B2 C2 φ base ds wt m o := ⟨fun _ h => absurd rfl h, fun e => absurd e hs⟩
theorem tkW_st5 {Gp : Pk → Value → World → Prop} {y : Value} {w : World} : tkW c z Gp (c + 5) y w := by
  unfold tkW
  rw [if_neg (by omega), if_neg (by omega), if_neg (by omega)]
  trivial
theorem postA_st {d : Nat} (hd : (ds.getD m none).getD 0 = d) (ho : o.op = .store 27 (.tmp d) (.tmp ((ds.getD (c + 2) none).getD 0))) (hw : wt.getD (c + 5) [] = [c + 2]) (hN : ∀ k, N k → k < u.heap.size) : PostA (c + 5) m (mdB N g t F G X Y bm u) (mdC z P N g t F G X Y bm u) (tkW c z (tkG z P N)) base ds wt (c + 5) o := by
  refine ⟨fun e => absurd rfl e, fun _ Q a w hB hh kn K hK => ?_⟩
  rw [hw] at kn
  rw [hd] at hB hK
  obtain ⟨Q1, v1, e, hG⟩ := tkW_pk' kn.1
  obtain ⟨gx, e2, hx, hs, hbx⟩ := hB
  have hgn : ¬ N gx := fun hn => by have := hN gx hn; omega
  exact act_st7 ho isPk (pkV_one hG.1) e2 e hs (fun w2 hs2 ho2 => hK _ _ tkW_st5 ⟨gx, Q1, v1, e2, hx, hs2, hG.only ho2 hs, hbx.only ho2 hgn⟩ (fun j y _ hφ => tkW_mono (fun Q v h => h.only ho2 hs) hφ))
theorem mkA {om : Oper} (ho : om.op = .alloc 27) (Q : Exit → Act → World → Prop) (a : Act) (w : World) (K : Act → World → Prop) : (Below u.heap.size u w → (∀ v w', mdA u v w' → K (a.put om.dst v) w') → om.wp Try.prog a w K Q) ∧ (BxP N g t F G X Y bm u w → (∀ v w', mdB N g t F G X Y bm u v w' → (∀ j y, tkW c z (tkG z P N) j y w → tkW c z (tkG z P N) j y w') → K (a.put om.dst v) w') → om.wp Try.prog a w K Q) :=
  ⟨fun hA hK => act_alloc zeroPk ho (fun w' hb hg => hK _ w' ⟨_, rfl, hA.size, hg, hA.trans (hb.mono hA.size)⟩),
   fun hB hK => act_alloc zeroPk ho (fun w' hb hg => hK _ w' ⟨_, rfl, hB.size, hg, (hB.grow (Nat.le_refl _)).kept hb⟩ (fun _ _ h => tkW_mono (fun _ _ h => h.kept hb) h))⟩
end
section
variable {P : Pk} {pc : Nat → Pk} {m : Nat} {u : World} {g : Nat} {mv v : Value} {b : Bx} {begun now t t0 e0 : Int} {cs : List Ch} {G : Fam} {y : List Pk} {ks : List Nat} {k : Nat} {N : Nat → Prop}
/-- What Take does, in whatever memory behind u, whatever more is to stay. -/
def TakeC (args : Array Value) (z : Bool) (P : Pk) (N : Nat → Prop) (g : Nat) (t : Int) (F G : Fam) (X Y : List Pk) (bm : Int) (u : World) : Prop := ∀ w, (Below u.heap.size u w → Calls Try.prog 17 args w fun e w' => ∃ Q v, e = .returned (.tuple #[.agg (SC 46 (pkV Q v)), .bool z]) ∧ tkG z P N Q v w' ∧ BxP N g t F G X Y bm u w') ∧
  ∀ x, mdA u x w → Calls Try.prog 17 args w fun e w' => ∃ Q v, e = .returned (.tuple #[.agg (SC 46 (pkV Q v)), .bool z]) ∧ tkG z P N Q v w' ∧ mdB N g t F G X Y bm u x w'
theorem takeC_of {args : Array Value} {z : Bool} {F G : Fam} {X Y : List Pk} {bm : Int} (hB : BoxAt u 0 N g mv b begun cs) (hN : ∀ k, N k → k < u.heap.size)
    (h : ∀ (N' : Nat → Prop) (w : World), (∀ k, N k → N' k) → (∀ k, N' k → k < w.heap.size) → Below u.heap.size u w → BoxAt w 0 N' g mv b begun cs → Calls Try.prog 17 args w fun e w' => ∃ Q v, e = .returned (.tuple #[.agg (SC 46 (pkV Q v)), .bool z]) ∧ tkG z P N' Q v w' ∧ BxP N' g now F G X Y bm w w') : TakeC args z P N g now F G X Y bm u := by
  intro w
  refine ⟨fun hb => ?_, fun x hx => ?_⟩
  · refine (h N w (fun _ h => h) (fun k hk => Nat.lt_of_lt_of_le (hN k hk) hb.size) hb (hB.kept hb)).mono ?_
    rintro e w' ⟨Q, v, rfl, h1, h2⟩
    exact ⟨Q, v, rfl, h1, h2.since hb⟩
  · obtain ⟨gx, rfl, hg, hs, hb⟩ := hx
    refine (h (fun k => N k ∨ k = gx) w (fun _ h => .inl h) (fun k hk => hk.elim (fun h => Nat.lt_of_lt_of_le (hN k h) hb.size) (fun e => e ▸ hs.lt)) hb ((hB.more (fun k hk => hk.imp_right (fun e => by omega))).kept hb)).mono ?_
    rintro e w' ⟨Q, v, rfl, h1, h2⟩
    exact ⟨Q, v, rfl, h1.less (fun _ h => .inl h), gx, rfl, hg, hs.block (h2.block (.inr rfl) hs.lt), h2.since hb⟩
theorem stepC_run (h : Whl P pc m) (hm64 : m ≤ 64) (hb : TwoAt b t (famOf t0 e0 (pc 0)) G (ks.map pc) y) (hfg : famOf t0 e0 (pc 0) ≠ G) (hn : t ≤ now) (h3 : now < 30000) (hnd : ks.Nodup) (hks : ∀ k ∈ ks, k < m) (hk : k < m) (hnk : k ∉ ks) (hB : BoxAt u 0 N g mv b begun cs) (hN : ∀ k, N k → k < u.heap.size) (hx : ExAt u v P.exts) (hv : ∀ q, exK v = some q → N q) (hbg : begun + 1 < 4611686018427387904) :
    TakeC #[.pointer (some ⟨g, 0, none⟩), .int .i64 now, .agg (SC 2 (tgV t0 e0)), .agg (SC 46 (pkV (pc k) v))] (decide (ks.length + 1 = m)) P N g now (famOf t0 e0 (pc 0)) G (if ks.length + 1 = m then [] else (ks ++ [k]).map pc) y (begun + 1) u := by
  refine takeC_of hB hN (fun N' w hNN hNw hbw hBw => ?_)
  refine (stepW_run h hm64 hb hfg hn h3 hnd hks hk hnk hBw hNw (hx.kept hbw) (fun q hq => hNN q (hv q hq)) hbg).mono ?_
  rintro e w' ⟨Q, v2, mv', bg', cs', b', rfl, h1, h2, h3, h4, h5, h6⟩
  exact ⟨Q, v2, rfl, ⟨h1, fun hz => h2 (of_decide_eq_true hz)⟩, mv', bg', cs', b', h3, h4, h5, h6⟩
theorem againC_run (h : Whl P pc m) (hb : TwoAt b t (famOf t0 e0 (pc 0)) G (ks.map pc) y) (hfg : famOf t0 e0 (pc 0) ≠ G) (hn : t ≤ now) (h3 : now < 30000) (hk : k < m) (hkk : k ∈ ks) (hl : ks.length < m) (hB : BoxAt u 0 N g mv b begun cs) (hN : ∀ k, N k → k < u.heap.size) (hx : ExAt u v P.exts) (hv : ∀ q, exK v = some q → N q) (hbg : begun + 1 < 4611686018427387904) :
    TakeC #[.pointer (some ⟨g, 0, none⟩), .int .i64 now, .agg (SC 2 (tgV t0 e0)), .agg (SC 46 (pkV (pc k) v))] false P N g now (famOf t0 e0 (pc 0)) G (ks.map pc) y (begun + 1) u := by
  refine takeC_of hB hN (fun N' w hNN hNw hbw hBw => ?_)
  refine (againW_run h hb hfg hn h3 hk hkk hl hBw hNw (hx.kept hbw) (fun q hq => hNN q (hv q hq)) hbg).mono ?_
  rintro e w' ⟨mv', bg', cs', b', rfl, h3, h4, h5, h6⟩
  exact ⟨_, _, rfl, ⟨rfl, fun hz => by cases hz⟩, mv', bg', cs', b', h3, h4, h5, h6⟩
end

theorem samW_self (P : Pk) : samP P P = true := samP_iff.2 ⟨rfl, fun _ _ => rfl, rfl, fun _ _ => rfl, rfl, rfl, rfl, rfl, rfl, rfl, rfl, rfl, rfl, rfl, rfl, rfl⟩
theorem TwoAt.monoW {b : Bx} {t t' : Int} {f g : Fam} {x y : List Pk} (h : TwoAt b t f g x y) (ht : t ≤ t') : TwoAt b t' f g x y := ⟨h.t0, Int.le_trans h.t1 ht, h.hs⟩
section
variable {a : Act} {o : Oper} {w : World} {x y : Operand}
theorem exec_negZ (ho : o.op = .unOp .neg 3 x) {m q : Int} (hx : a.eval x = .int .i64 m) (hq : q = -m) (h0 : -9223372036854775808 ≤ q) (h1 : q < 9223372036854775808) : (execOp a.eval o).run Try.prog w = .ok (.value (.int .i64 q)) w := by
  have e : IntKind.i64.wrap (-m) = q := by rw [IntKind.wrap_i64]; omega
  unfold execOp
  simp only [ho, hx]
  simp [go_sem, e]
theorem exec_remQ (ho : o.op = .binOp .rem 3 x y 3) {m n q : Int} (hx : a.eval x = .int .i64 m) (hy : a.eval y = .int .i64 n) (h0 : 0 < n) (hq : Hid (m.tmod n = q)) : (execOp a.eval o).run Try.prog w = .ok (.value (.int .i64 q)) w := hq.out ▸ exec_remI ho hx hy h0
end
set_option maxHeartbeats 2000000 in
theorem pick_run (c : Int) (n : Nat) (w : World) (hc : I64 c) (hn : 0 < n) : Calls Try.prog 16 #[.int .i64 c, .int .i64 (n : Int)] w fun e w' => e = .returned (.int .i64 (pickV c n)) ∧ Below w.heap.size w w' := by
  unfold I64 at hc
  go_enter Try.func16, Try.ntmps16
  by_cases h : c < 0
  · have e : pickV c n = (-(c + 1)).tmod n := by unfold pickV; rw [if_pos h]
    rw [e]
    obtain ⟨q, hq⟩ : ∃ q, (-(c + 1)).tmod n = q := ⟨_, rfl⟩
    have HQ := Hid.mk hq
    rw [hq]
    clear hq
    go_wp2_with (first | (refine wl_value rfl (exec_ltT (m := c) (n := 0) rfl (by rfl) (by rfl) h) ?_) | (refine wl_value rfl (exec_addE (m := c) (n := 1) rfl (by rfl) (by rfl) (by rw [IntKind.wrap_i64]; omega)) ?_) | (refine wl_value rfl (exec_negZ (m := c + 1) (q := -(c + 1)) rfl (by rfl) rfl (by omega) (by omega)) ?_) | (refine wl_value rfl (exec_remQ (m := -(c + 1)) (n := (n : Int)) rfl (by rfl) (by rfl) (by omega) HQ) ?_))
    go_ret
    exact ⟨rfl, Below.refl _ _⟩
  · have e : pickV c n = c.tmod n := by unfold pickV; rw [if_neg h]
    rw [e]
    obtain ⟨q, hq⟩ : ∃ q, c.tmod n = q := ⟨_, rfl⟩
    have HQ := Hid.mk hq
    rw [hq]
    clear hq
    go_wp2_with (first | (refine wl_value rfl (exec_ltF (m := c) (n := 0) rfl (by rfl) (by rfl) h) ?_) | (refine wl_value rfl (exec_remQ (m := c) (n := (n : Int)) rfl (by rfl) (by rfl) (by omega) HQ) ?_))
    go_ret
    exact ⟨rfl, Below.refl _ _⟩
end Go.Proofs.Ythnlfjkpiohooaa
