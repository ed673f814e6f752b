/-
  Own text. What swap and swapped of package curve give.
-/
import Derived.Test.YtpcpcgfljffkeaaDoorJ4
import Derived.Test.YtpcpcgfljffkeaaDoorJ2
import Derived.Test.YtpcpcgfljffkeaaDoorRows
import Derived.Test.YtpcpcgfljffkeaaDoorTie
import Derived.Test.YtpcpcgfljffkeaaDoorCards
import Derived.ProofKit
import Derived.LaidMore
import Derived.OpenShut
import Derived.Stop.Joined
import Derived.SevenTiedAt
namespace Go.Proofs.YtpcpcgfljffkeaaDoor
open Go.RowKit Go.Proofs
def mI (b : Bool) : Int := if b then 255 else 0
theorem mask_u8 (b : Bool) : IntKind.u8.wrap (-(bI b)) = mI b := by cases b <;> decide
theorem swap_first (b : Bool) (x y : Int) (h0 : 0 ≤ x) (h1 : x < 256) (k0 : 0 ≤ y) (k1 : y < 256) : bits BinOp.xor IntKind.u8 x (bits BinOp.and IntKind.u8 (mI b) (bits BinOp.xor IntKind.u8 x y)) = tb b x y := by
  rw [xor_u8 x y h0 h1 k0 k1]
  have hl := xor_lt256 (m := x.toNat) (n := y.toNat) (by omega) (by omega)
  cases b
  · simp only [mI, tb, Bool.false_eq_true, if_false]
    rw [and0_u8 _ (by omega) (by omega), xor_u8 x 0 h0 h1 (by omega) (by omega)]
    simp; omega
  · simp only [mI, tb, if_true]
    rw [and255_u8 _ (by omega) (by omega), xor_u8 x _ h0 h1 (by omega) (by omega)]
    simp only [Int.toNat_natCast]
    rw [← Nat.xor_assoc, Nat.xor_self, Nat.zero_xor]; omega
theorem swap_second (b : Bool) (x y : Int) (h0 : 0 ≤ x) (h1 : x < 256) (k0 : 0 ≤ y) (k1 : y < 256) : bits BinOp.xor IntKind.u8 y (bits BinOp.and IntKind.u8 (mI b) (bits BinOp.xor IntKind.u8 x y)) = tb b y x := by
  rw [xor_u8 x y h0 h1 k0 k1, Nat.xor_comm, ← xor_u8 y x k0 k1 h0 h1]
  exact swap_first b y x k0 k1 h0 h1
theorem below_G {wd : World} {G : List (Nat × Cont)} {B : Nat} (hB : wd.heap.size ≤ B) (hG : GLow wd.heap.size G) (w w' : World) (h : Below wd.heap.size wd w) (ht : Touch (fun k => B ≤ k ∨ k ∈ G.map (·.1)) w w') : Below wd.heap.size wd w' :=
  h.trans ⟨ht.os, ht.tape, ht.output, ht.size, fun k hk => ht.block k (Nat.lt_of_lt_of_le hk h.size) (fun e => e.elim (fun e => by omega) (fun e => by have := hG.at k e; omega))⟩
theorem results_cells2 {P : Program} {fn : Func} {p q : Tmp} {ty ty' : TypeId} (h : fn.results = #[.cell p ty, .cell q ty']) (tmps : Array Value) (w : World) (g g' : Nat)
    (hp : tmps.getD p undef = .pointer (some ⟨g, 0, none⟩)) (hq : tmps.getD q undef = .pointer (some ⟨g', 0, none⟩)) {t t' : TypeId} {fr fr' : Nat × Nat} {d d' : TypeDesc} (cs cs' : Array Value) (hg : w.heap[g]? = some (.cells cs t fr)) (hg' : w.heap[g']? = some (.cells cs' t' fr'))
    (hi : (P.info? ty).map (·.size) = some cs.size) (hi' : (P.info? ty').map (·.size) = some cs'.size)
    (hu : P.underlying ty = some d) (hd : (match d with | .struct _ | .array _ _ => true | _ => false) = true)
    (hu' : P.underlying ty' = some d') (hd' : (match d' with | .struct _ | .array _ _ => true | _ => false) = true) :
    (results fn tmps).run P w = .ok (.tuple #[.agg cs, .agg cs']) w := by
  have hp' : tmps[p]?.getD undef = .pointer (some ⟨g, 0, none⟩) := by simpa using hp
  have hq' : tmps[q]?.getD undef = .pointer (some ⟨g', 0, none⟩) := by simpa using hq
  simp [results, h, hp', hq', asAddr, run_loadVar_row w g t ty cs fr d hg hu hd hi, run_loadVar_row w g' t' ty' cs' fr' d' hg' hu' hd' hi']
theorem byt_tb (b : Bool) (p q : Int) (j : Nat) : tb b (byt p j) (byt q j) = byt (tb b p q) j := by cases b <;> rfl
theorem mix_next {cs : Array Value} {b : Bool} {p q : Int} {k : Nat} (hk : k < 32) (hs : cs.size = 32) (h : ∀ j, j < 32 → cs[j]? = some (.int .u8 (byt (if j < k then tb b p q else p) j))) :
    ∀ j, j < 32 → (cs.setIfInBounds k (.int .u8 (tb b (byt p k) (byt q k))))[j]? = some (.int .u8 (byt (if j < k + 1 then tb b p q else p) j)) := by
  intro j hj
  rw [Array.getElem?_setIfInBounds]
  by_cases e : k = j
  · subst e
    simp only [if_true, hs, hk, byt_tb]
    rw [if_pos (by omega)]
  · rw [if_neg e, h j hj]
    by_cases hl : j < k
    · rw [if_pos hl, if_pos (by omega)]
    · rw [if_neg hl, if_neg (by omega)]
set_option maxHeartbeats 1000000 in
set_option maxRecDepth 100000 in
theorem swap_any (b : Bool) (p q : Int) (w : World) :
    Calls Tryd.prog 47 #[.int .u8 (bI b), .agg (BA p), .agg (BA q)] w fun e w' => e = .returned (.tuple #[.agg (BA (tb b p q)), .agg (BA (tb b q p))]) ∧ Below w.heap.size w w' := by
  have hmask := mask_u8 b
  go_enter Tryd.func47, Tryd.ntmps47
  go_wp2
  go_loopg [13] 32 (fun m i v => ∃ (k : Nat) (cs ds : Array Value), Hid (m + k = 32) ∧ i = .int .i64 k ∧ cs.size = 32 ∧ ds.size = 32 ∧ Hid (∀ j, j < 32 → cs[j]? = some (.int .u8 (byt (if j < k then tb b p q else p) j))) ∧ Hid (∀ j, j < 32 → ds[j]? = some (.int .u8 (byt (if j < k then tb b q p else q) j))) ∧
    v.heap[w.heap.size]? = some (.cells cs 22 (0, 0)) ∧ v.heap[w.heap.size + 1]? = some (.cells ds 22 (0, 0)) ∧ v.heap[w.heap.size + 1 + 1]? = some (.cells (BA 0) 22 (0, 0)) ∧ v.heap[w.heap.size + 1 + 1 + 1]? = some (.cells (BA 0) 22 (0, 0)) ∧ Below w.heap.size w v)
  case atStart =>
    refine ⟨0, BA p, BA q, Hid.mk rfl, rfl, BA_size p, BA_size q, Hid.mk (fun j hj => by rw [if_neg (by omega)]; exact BA_get p j hj), Hid.mk (fun j hj => by rw [if_neg (by omega)]; exact BA_get q j hj), ?_, ?_, ?_, ?_, ?_⟩
    · exact (Below.heap_alloc _ _ _ (by simp <;> omega)).trans (heap_a31 w _ _ _)
    · exact (Below.heap_alloc _ _ _ (by simp <;> omega)).trans (heap_a32 w _ _ _)
    · exact (Below.heap_alloc _ _ _ (by simp <;> omega)).trans (heap_a3 w _ _ _)
    · exact heap_a4r w _ _ _ _
    · repeat first | exact Below.refl _ _ | refine Below.alloc ?_ (by simp <;> omega) _
  case round =>
    obtain ⟨k, cs, ds, HJ, rfl, sc, sd, HC, HD, g1, g2, g3, g4, hB⟩ := hrel
    have hk32 : k ≤ 32 := by have := HJ.out; omega
    by_cases hk : k < 32
    · have ca := (cell_of_row wr w.heap.size k _ _ _ g1).trans (HC.out k hk)
      have cd := (cell_of_row wr (w.heap.size + 1) k _ _ _ g2).trans (HD.out k hk)
      rw [if_neg (by omega)] at ca cd
      have fa := frozen_of_row wr w.heap.size k _ _ g1
      have fb := frozen_of_row wr (w.heap.size + 1) k _ _ g2
      have NC := Hid.mk (mix_next hk sc HC.out)
      have ND := Hid.mk (mix_next hk sd HD.out)
      have hx := byt_byte p k
      have hy := byt_byte q k
      unfold Byte at hx hy
      have e1 := swap_first b (byt p k) (byt q k) hx.1 hx.2 hy.1 hy.2
      have e2 := swap_second b (byt p k) (byt q k) hx.1 hx.2 hy.1 hy.2
      generalize byt p k = x at *
      generalize byt q k = y at *
      obtain ⟨d, hd⟩ : ∃ d, bits BinOp.and IntKind.u8 (mI b) (bits BinOp.xor IntKind.u8 x y) = d := ⟨_, rfl⟩
      rw [hd] at e1 e2
      go_wp2_with fail
      go_region
      go_wp2
      go_roundg (32 - (k + 1))
      case rel =>
        exact ⟨k + 1, cs.setIfInBounds k (.int .u8 (tb b x y)), ds.setIfInBounds k (.int .u8 (tb b y x)), Hid.mk (by omega), by go_num, by simp [sc], by simp [sd], NC, ND,
          (heap_setCell_other _ _ _ _ (by simp <;> omega)).trans (heap_setCell_same _ _ _ _ _ _ g1), heap_setCell_same _ _ _ _ _ _ ((heap_setCell_other _ _ _ _ (by simp <;> omega)).trans g2),
          (heap_setCell_other _ _ _ _ (by simp <;> omega)).trans ((heap_setCell_other _ _ _ _ (by simp <;> omega)).trans g3), (heap_setCell_other _ _ _ _ (by simp <;> omega)).trans ((heap_setCell_other _ _ _ _ (by simp <;> omega)).trans g4),
          Below.setCell (Below.setCell (Below.drew hB) (by simp <;> omega) _) (by simp <;> omega) _⟩
      case measure => have := HJ.out; omega
    · have hk2 : k = 32 := by omega
      subst hk2
      have ec : cs = BA (tb b p q) := BA_ext sc (fun j hj => by rw [HC.out j hj, if_pos hj])
      have ed : ds = BA (tb b q p) := BA_ext sd (fun j hj => by rw [HD.out j hj, if_pos hj])
      subst ec ed
      clear HC HD sc sd
      go_wp2_with fail
      refine wp_region3 (Below w.heap.size w) wr.heap.size
        [(w.heap.size, fixd (BA (tb b p q)) 22), ((w.heap.size + 1), fixd (BA (tb b q p)) 22), ((w.heap.size + 1 + 1), once (BA 0) 22 2 (BA (tb b p q))), ((w.heap.size + 1 + 1 + 1), once (BA 0) 22 3 (BA (tb b q p)))]
        [kv (.agg (BA (tb b p q))), kv (.agg (BA (tb b q p))), .val fun _ => True, .val fun _ => True]
        [.none, .none, .base 2 1, .base 3 1]
        [some 38, some 39, none, none]
        [(4, .pointer (some ⟨w.heap.size, 0, none⟩)), (5, .pointer (some ⟨(w.heap.size + 1), 0, none⟩)), (6, .pointer (some ⟨(w.heap.size + 1 + 1), 0, none⟩)), (7, .pointer (some ⟨(w.heap.size + 1 + 1 + 1), 0, none⟩))]
        [[.base 0 0], [.base 1 0], [.base 2 0, .slot 0], [.base 3 0, .slot 1]]
        [.base 2 1, .base 3 1] [38, 39]
        rfl (by kernel_rfl) ⟨rfl, rfl, rfl, rfl, trivial⟩ (Below.drew hB) (Nat.le_refl _) ⟨⟨heap_lt g1, obIn g1⟩, ⟨heap_lt g2, obIn g2⟩, ⟨heap_lt g3, obIn g3⟩, ⟨heap_lt g4, obIn g4⟩, trivial⟩ ⟨⟨trivial, (show (w.heap.size : Nat) ≠ (w.heap.size + 1 + 1) from by omega), (show (w.heap.size : Nat) ≠ (w.heap.size + 1 + 1 + 1) from by omega), trivial⟩, ⟨(show ((w.heap.size + 1) : Nat) ≠ (w.heap.size + 1 + 1) from by omega), (show ((w.heap.size + 1) : Nat) ≠ (w.heap.size + 1 + 1 + 1) from by omega), trivial⟩, ⟨(show ((w.heap.size + 1 + 1) : Nat) ≠ (w.heap.size + 1 + 1 + 1) from by omega), trivial⟩, trivial, trivial⟩ (below_G hB.size ⟨by omega, by omega, by omega, by omega, trivial⟩)
        ⟨
          -- 0
          (fun Q aq ww own hS hBg fr kn => .inl ⟨trivial, fun K hK => wp_value (lookb rfl fr.1 (obAt kn.1)) (hK _ _ ⟨Touch.refl _ _, rfl⟩)⟩),
          -- 1
          (fun Q aq ww own hS hBg fr kn => .inl ⟨trivial, fun K hK => wp_value (lookb rfl fr.2.1 (obAt kn.1)) (hK _ _ ⟨Touch.refl _ _, rfl⟩)⟩),
          -- 2
          (fun Q aq ww own hS hBg fr kn => .inl ⟨trivial, fun K hK => actbytes rfl fr.2.2.1 kn.2.1 (obAt kn.1) (fun w2 hg ho => hK _ _ ⟨⟨touch_only ho, obIn hg⟩, trivial⟩)⟩),
          -- 3
          (fun Q aq ww own hS hBg fr kn => .inl ⟨trivial, fun K hK => actbytes rfl fr.2.2.2.1 kn.2.1 (obAt kn.1) (fun w2 hg ho => hK _ _ ⟨⟨touch_only ho, obIn hg⟩, trivial⟩)⟩),
          trivial⟩ ?_
      intro vs own v9 hB9 hs9 kn inj
      have g6 := obAt kn.1
      have g7 := obAt kn.2.1
      simp only [putAll, Act.put, List.setIfInBounds_toArray, List.set_cons_zero, List.set_cons_succ]
      go_wp2
      exact bodyPost_ret (v := .tuple #[.agg (BA (tb b p q)), .agg (BA (tb b q p))]) (results_cells2 rfl _ _ _ _ rfl rfl _ _ g6 g7 (by rw [BA_size]; exact info32) (by rw [BA_size]; exact info32) Tryd.underlying22 rfl Tryd.underlying22 rfl) rfl ⟨rfl, hB9⟩
end Go.Proofs.YtpcpcgfljffkeaaDoor
/-
  Own text. A row of 32 bytes stored into one of four; what swapped of package curve gives.
-/
namespace Go.Proofs.YtpcpcgfljffkeaaDoor
open Go.RowKit Go.Proofs
theorem setCells_heap {b : Nat} {t : TypeId} : ∀ (vs : List Value) (o : Nat) (w : World) (C : Array Value), w.heap[b]? = some (.cells C t (0, 0)) → o + vs.length ≤ C.size →
    ∃ C' : Array Value, (w.setCells b o vs).heap[b]? = some (.cells C' t (0, 0)) ∧ C'.size = C.size ∧ (∀ j, j < vs.length → C'[o + j]? = vs[j]?) ∧ (∀ j, j < o ∨ o + vs.length ≤ j → C'[j]? = C[j]?) ∧ Only b w (w.setCells b o vs)
  | [], _, w, C, hg, _ => ⟨C, hg, rfl, fun j hj => by simp at hj, fun _ _ => rfl, Only.refl b w⟩
  | x :: vs, o, w, C, hg, hl => by
    simp only [List.length_cons] at hl
    obtain ⟨C', h1, h2, h3, h4, h5⟩ := setCells_heap vs (o + 1) (w.setCell ⟨b, o, none⟩ x) (C.setIfInBounds o x) (heap_setCell_same w b o C t x hg) (by simp; omega)
    refine ⟨C', h1, by rw [h2]; simp, fun j hj => ?_, fun j hj => ?_, ?_⟩
    · cases j with
      | zero =>
        rw [Nat.add_zero, h4 o (.inl (by omega)), Array.getElem?_setIfInBounds]
        simp
        omega
      | succ j =>
        simp only [List.length_cons] at hj
        have := h3 j (by omega)
        rw [show o + 1 + j = o + (j + 1) by omega] at this
        rw [this]; simp
    · simp only [List.length_cons] at hj
      rw [h4 j (by omega), Array.getElem?_setIfInBounds, if_neg (by omega)]
    · have o1 := (Only.refl b w).setCell o x
      exact ⟨h5.os.trans o1.os, h5.tape.trans o1.tape, h5.output.trans o1.output, h5.size.trans o1.size, fun k hk => (h5.block k hk).trans (o1.block k hk)⟩
theorem Q4_ext {cs : Array Value} {x z v w : Int} (hs : cs.size = 128) (h0 : ∀ j, j < 32 → cs[j]? = (BA x)[j]?) (h1 : ∀ j, j < 32 → cs[32 + j]? = (BA z)[j]?) (h2 : ∀ j, j < 32 → cs[64 + j]? = (BA v)[j]?) (h3 : ∀ j, j < 32 → cs[96 + j]? = (BA w)[j]?) : cs = Q4 x z v w := by
  apply Array.ext_getElem?
  intro i
  by_cases a0 : i < 32
  · rw [h0 i a0, Q4_0 x z v w i a0]
  · by_cases a1 : i < 64
    · have := h1 (i - 32) (by omega)
      have e := Q4_1 x z v w (i - 32) (by omega)
      rw [show 32 + (i - 32) = i by omega] at this e
      rw [this, e]
    · by_cases a2 : i < 96
      · have := h2 (i - 64) (by omega)
        have e := Q4_2 x z v w (i - 64) (by omega)
        rw [show 64 + (i - 64) = i by omega] at this e
        rw [this, e]
      · by_cases a3 : i < 128
        · have := h3 (i - 96) (by omega)
          have e := Q4_3 x z v w (i - 96) (by omega)
          rw [show 96 + (i - 96) = i by omega] at this e
          rw [this, e]
        · rw [Array.getElem?_eq_none (by omega), Array.getElem?_eq_none (by rw [Q4_size]; omega)]
theorem there_row {w : World} {b o n : Nat} {C : Array Value} {t : TypeId} (hg : w.heap[b]? = some (.cells C t (0, 0))) (h : o + n ≤ C.size) : w.there b o n := fun j hj => by
  refine ⟨?_, frozen_of_row w b (o + j) _ _ hg⟩
  rw [cell_of_row w b (o + j) _ _ _ hg, Array.getElem?_eq_getElem (by omega)]
  rfl
theorem st_in {ops : Array Oper} {rest : List Oper} {d : Option Tmp} {X Y : Operand} {t : TypeId} {ps : String} {af : Array Edge} {a : Act} {wd : World} {Q : Exit → Act → World → Prop} {g o : Nat} {n : Int} {C : Array Value} {ty : TypeId}
    (hx : a.eval X = .pointer (some ⟨g, o, none⟩)) (hy : a.eval Y = .agg (BA n)) (hg : wd.heap[g]? = some (.cells C ty (0, 0))) (ho : o + 32 ≤ C.size)
    (h : ∀ w2 C', w2.heap[g]? = some (.cells C' ty (0, 0)) → C'.size = C.size → (∀ j, j < 32 → C'[o + j]? = (BA n)[j]?) → (∀ j, j < o ∨ o + 32 ≤ j → C'[j]? = C[j]?) → Only g wd w2 → wpList Tryd.prog ops Q rest (a.put d undef) w2) :
    wpList Tryd.prog ops Q ({ dst := d, op := .store 22 X Y, type := t, pos := ps, after := af, guard := none } :: rest) a wd := by
  have hl : (BA n).toList.length = 32 := by rw [Array.length_toList, BA_size]
  obtain ⟨C', h1, h2, h3, h4, h5⟩ := setCells_heap (b := g) (BA n).toList o wd C hg (by omega)
  rw [hl] at h3 h4
  exact wpList_store_mid rfl 22 X Y rfl g o (BA n) hx hy (there_row hg (by rw [BA_size]; exact ho)) (by rw [BA_size]; exact info32) (BA_one n)
    (h _ C' h1 h2 (fun j hj => by rw [h3 j hj]; simp) h4 h5)
theorem st_f0 {ops : Array Oper} {rest : List Oper} {d : Option Tmp} {X Y : Operand} {t : TypeId} {ps : String} {af : Array Edge} {a : Act} {wd : World} {Q : Exit → Act → World → Prop} {g : Nat} {n x z v w : Int} {ty : TypeId}
    (hx : a.eval X = .pointer (some ⟨g, 0, none⟩)) (hy : a.eval Y = .agg (BA n)) (hg : wd.heap[g]? = some (.cells (Q4 x z v w) ty (0, 0)))
    (h : ∀ w2, w2.heap[g]? = some (.cells (Q4 n z v w) ty (0, 0)) → Only g wd w2 → wpList Tryd.prog ops Q rest (a.put d undef) w2) :
    wpList Tryd.prog ops Q ({ dst := d, op := .store 22 X Y, type := t, pos := ps, after := af, guard := none } :: rest) a wd :=
  st_in hx hy hg (by rw [Q4_size]; omega) (fun w2 C' g2 s2 hin hout o2 => h w2 (by
    have e := Q4_ext (cs := C') (by rw [s2, Q4_size]) (fun j hj => by have := hin j hj; rwa [Nat.zero_add] at this) (fun j hj => by rw [hout _ (by omega)]; exact Q4_1 x z v w j hj) (fun j hj => by rw [hout _ (by omega)]; exact Q4_2 x z v w j hj) (fun j hj => by rw [hout _ (by omega)]; exact Q4_3 x z v w j hj)
    rw [e] at g2
    exact g2) o2)
theorem st_f1 {ops : Array Oper} {rest : List Oper} {d : Option Tmp} {X Y : Operand} {t : TypeId} {ps : String} {af : Array Edge} {a : Act} {wd : World} {Q : Exit → Act → World → Prop} {g : Nat} {n x z v w : Int} {ty : TypeId}
    (hx : a.eval X = .pointer (some ⟨g, 32, none⟩)) (hy : a.eval Y = .agg (BA n)) (hg : wd.heap[g]? = some (.cells (Q4 x z v w) ty (0, 0)))
    (h : ∀ w2, w2.heap[g]? = some (.cells (Q4 x n v w) ty (0, 0)) → Only g wd w2 → wpList Tryd.prog ops Q rest (a.put d undef) w2) :
    wpList Tryd.prog ops Q ({ dst := d, op := .store 22 X Y, type := t, pos := ps, after := af, guard := none } :: rest) a wd :=
  st_in hx hy hg (by rw [Q4_size]; omega) (fun w2 C' g2 s2 hin hout o2 => h w2 (by
    have e := Q4_ext (cs := C') (by rw [s2, Q4_size]) (fun j hj => by rw [hout _ (by omega)]; exact Q4_0 x z v w j hj) hin (fun j hj => by rw [hout _ (by omega)]; exact Q4_2 x z v w j hj) (fun j hj => by rw [hout _ (by omega)]; exact Q4_3 x z v w j hj)
    rw [e] at g2
    exact g2) o2)
theorem st_f2 {ops : Array Oper} {rest : List Oper} {d : Option Tmp} {X Y : Operand} {t : TypeId} {ps : String} {af : Array Edge} {a : Act} {wd : World} {Q : Exit → Act → World → Prop} {g : Nat} {n x z v w : Int} {ty : TypeId}
    (hx : a.eval X = .pointer (some ⟨g, 64, none⟩)) (hy : a.eval Y = .agg (BA n)) (hg : wd.heap[g]? = some (.cells (Q4 x z v w) ty (0, 0)))
    (h : ∀ w2, w2.heap[g]? = some (.cells (Q4 x z n w) ty (0, 0)) → Only g wd w2 → wpList Tryd.prog ops Q rest (a.put d undef) w2) :
    wpList Tryd.prog ops Q ({ dst := d, op := .store 22 X Y, type := t, pos := ps, after := af, guard := none } :: rest) a wd :=
  st_in hx hy hg (by rw [Q4_size]; omega) (fun w2 C' g2 s2 hin hout o2 => h w2 (by
    have e := Q4_ext (cs := C') (by rw [s2, Q4_size]) (fun j hj => by rw [hout _ (by omega)]; exact Q4_0 x z v w j hj) (fun j hj => by rw [hout _ (by omega)]; exact Q4_1 x z v w j hj) hin (fun j hj => by rw [hout _ (by omega)]; exact Q4_3 x z v w j hj)
    rw [e] at g2
    exact g2) o2)
theorem st_f3 {ops : Array Oper} {rest : List Oper} {d : Option Tmp} {X Y : Operand} {t : TypeId} {ps : String} {af : Array Edge} {a : Act} {wd : World} {Q : Exit → Act → World → Prop} {g : Nat} {n x z v w : Int} {ty : TypeId}
    (hx : a.eval X = .pointer (some ⟨g, 96, none⟩)) (hy : a.eval Y = .agg (BA n)) (hg : wd.heap[g]? = some (.cells (Q4 x z v w) ty (0, 0)))
    (h : ∀ w2, w2.heap[g]? = some (.cells (Q4 x z v n) ty (0, 0)) → Only g wd w2 → wpList Tryd.prog ops Q rest (a.put d undef) w2) :
    wpList Tryd.prog ops Q ({ dst := d, op := .store 22 X Y, type := t, pos := ps, after := af, guard := none } :: rest) a wd :=
  st_in hx hy hg (by rw [Q4_size]; omega) (fun w2 C' g2 s2 hin hout o2 => h w2 (by
    have e := Q4_ext (cs := C') (by rw [s2, Q4_size]) (fun j hj => by rw [hout _ (by omega)]; exact Q4_0 x z v w j hj) (fun j hj => by rw [hout _ (by omega)]; exact Q4_1 x z v w j hj) (fun j hj => by rw [hout _ (by omega)]; exact Q4_2 x z v w j hj) hin
    rw [e] at g2
    exact g2) o2)
set_option maxHeartbeats 1000000 in
set_option maxRecDepth 100000 in
theorem swapped_any (b : Bool) (x z v w : Int) (wd : World) :
    Calls Tryd.prog 31 #[.agg (Q4 x z v w), .int .u8 (bI b)] wd fun e w' => e = .returned (.agg (Q4 (tb b x v) (tb b z w) (tb b v x) (tb b w z))) ∧ Below wd.heap.size wd w' := by
  have hzero := zero_rungs
  go_enter Tryd.func31, Tryd.ntmps31
  go_wp2_with (first
    | (refine ld_mid rfl _ rfl wd.heap.size 0 x rfl (range_in (heap_alloc2_old wd _ _) (fun j hj => by rw [Nat.zero_add]; exact Q4_0 x z v w j hj)) ?_)
    | (refine ld_mid rfl _ rfl wd.heap.size 64 v rfl (range_in (heap_alloc2_old wd _ _) (Q4_2 x z v w)) ?_))
  have g2 : (((wd.alloc (.cells (Q4 x z v w) 33 (0, 0))).alloc (.cells (Q4 0 0 0 0) 33 (0, 0)))).heap[wd.heap.size]? = some (.cells (Q4 x z v w) 33 (0, 0)) := heap_alloc2_old wd _ _
  have g4 : (((wd.alloc (.cells (Q4 x z v w) 33 (0, 0))).alloc (.cells (Q4 0 0 0 0) 33 (0, 0)))).heap[wd.heap.size + 1]? = some (.cells (Q4 0 0 0 0) 33 (0, 0)) := heap_alloc2_new wd _ _
  have hB : Below wd.heap.size wd ((wd.alloc (.cells (Q4 x z v w) 33 (0, 0))).alloc (.cells (Q4 0 0 0 0) 33 (0, 0))) := by repeat first | exact Below.refl _ _ | refine Below.alloc ?_ (by simp <;> omega) _
  clear hzero
  refine (swap_any b x v _).mono ?_
  rintro e v1 ⟨rfl, hb⟩
  replace g2 := bheap hb g2 (heap_lt g2)
  replace g4 := bheap hb g4 (heap_lt g4)
  replace hB := Below.trans hB (hb.mono hB.size)
  clear hb
  go_wp2_with (refine st_f0 (g := wd.heap.size) (n := tb b x v) (x := x) (z := z) (v := v) (w := w) (by rfl) (by rfl) g2 ?_; intro v2 g22 o2; refine Hid.out ?_)
  clear g2
  have g2 := g22
  clear g22
  replace g4 := (o2.block _ (by omega)).trans g4
  replace hB := Below.trans hB (Only.below (b := wd.heap.size) (B := wd.heap.size) o2 (Nat.le_refl _))
  clear o2
  refine Hid.mk ?_
  go_wp2_with (refine st_f2 (g := wd.heap.size) (n := tb b v x) (x := tb b x v) (z := z) (v := v) (w := w) (by rfl) (by rfl) g2 ?_; intro v3 g22 o2; refine Hid.out ?_)
  clear g2
  have g2 := g22
  clear g22
  replace g4 := (o2.block _ (by omega)).trans g4
  replace hB := Below.trans hB (Only.below (b := wd.heap.size) (B := wd.heap.size) o2 (Nat.le_refl _))
  clear o2
  refine Hid.mk ?_
  go_wp2_with (first
    | (refine ld_mid rfl _ rfl wd.heap.size 32 z rfl (range_in g2 (Q4_1 _ z _ w)) ?_)
    | (refine ld_mid rfl _ rfl wd.heap.size 96 w rfl (range_in g2 (Q4_3 _ z _ w)) ?_))
  refine (swap_any b z w _).mono ?_
  rintro e v4 ⟨rfl, hb⟩
  replace g2 := bheap hb g2 (heap_lt g2)
  replace g4 := bheap hb g4 (heap_lt g4)
  replace hB := Below.trans hB (hb.mono hB.size)
  clear hb
  go_wp2_with (refine st_f1 (g := wd.heap.size) (n := tb b z w) (x := tb b x v) (z := z) (v := tb b v x) (w := w) (by rfl) (by rfl) g2 ?_; intro v5 g22 o2; refine Hid.out ?_)
  clear g2
  have g2 := g22
  clear g22
  replace g4 := (o2.block _ (by omega)).trans g4
  replace hB := Below.trans hB (Only.below (b := wd.heap.size) (B := wd.heap.size) o2 (Nat.le_refl _))
  clear o2
  refine Hid.mk ?_
  go_wp2_with (refine st_f3 (g := wd.heap.size) (n := tb b w z) (x := tb b x v) (z := tb b z w) (v := tb b v x) (w := w) (by rfl) (by rfl) g2 ?_; intro v6 g22 o2; refine Hid.out ?_)
  clear g2
  have g2 := g22
  clear g22
  replace g4 := (o2.block _ (by omega)).trans g4
  replace hB := Below.trans hB (Only.below (b := wd.heap.size) (B := wd.heap.size) o2 (Nat.le_refl _))
  clear o2
  refine Hid.mk ?_
  go_wp2_with (first
    | (refine ld_rungs rfl _ rfl wd.heap.size (tb b x v) (tb b z w) (tb b v x) (tb b w z) rfl g2 ?_)
    | (refine st_rungs (g := wd.heap.size + 1) (x := tb b x v) (z := tb b z w) (v := tb b v x) (w := tb b w z) (old := Q4 0 0 0 0) (by rfl) (by rfl) g4 (Q4_size 0 0 0 0) ?_; intro w3 g3 o3))
  exact bodyPost_ret (v := .agg (Q4 (tb b x v) (tb b z w) (tb b v x) (tb b w z))) (results_cell_row rfl _ _ _ _ _ _ _ rfl g3 Tryd.underlying33 rfl (by rw [Q4_size]; exact info128r)) rfl
    ⟨rfl, Below.trans hB (Only.below (b := wd.heap.size + 1) (B := wd.heap.size) o3 (by omega))⟩
end Go.Proofs.YtpcpcgfljffkeaaDoor
/-
  Own text. What step and Times of package curve give: the ladder's step, X25519 as a number.
-/
namespace Go.Proofs.YtpcpcgfljffkeaaDoor
open Go.RowKit Go.Proofs
/-- A value that stands for q. -/
def RG (q : Qd pN) (V : Value) : Prop := ∃ x z v w, V = .agg (Q4 x z v w) ∧ N256 x ∧ N256 z ∧ N256 v ∧ N256 w ∧ QI x z v w = q
def RGo (q : Qd pN) (ob : Obj) : Prop := ∃ x z v w, ob = .cells (Q4 x z v w) 33 (0, 0) ∧ N256 x ∧ N256 z ∧ N256 v ∧ N256 w ∧ QI x z v w = q
theorem RG_of (x z v w : Int) (hx : N256 x) (hz : N256 z) (hv : N256 v) (hw : N256 w) : RG (QI x z v w) (.agg (Q4 x z v w)) := ⟨x, z, v, w, rfl, hx, hz, hv, hw, rfl⟩
theorem turn_QI (b : Bool) (x z v w : Int) : QI (tb b x v) (tb b z w) (tb b v x) (tb b w z) = Qd.turn b (QI x z v w) := by cases b <;> rfl
theorem swapped_rg (b : Bool) (q : Qd pN) (V : Value) (hV : RG q V) (wd : World) :
    Calls Tryd.prog 31 #[V, .int .u8 (bI b)] wd fun e w' => ∃ v, e = .returned v ∧ RG (Qd.turn b q) v ∧ Below wd.heap.size wd w' := by
  obtain ⟨x, z, v, w, rfl, hx, hz, hv, hw, rfl⟩ := hV
  refine (swapped_any b x z v w wd).mono ?_
  rintro e w' ⟨rfl, hb⟩
  exact ⟨_, rfl, ⟨_, _, _, _, rfl, tb_256 hx hv, tb_256 hz hw, tb_256 hv hx, tb_256 hw hz, turn_QI b x z v w⟩, hb⟩
theorem climbed_rg (u : Int) (q : Qd pN) (V : Value) (hV : RG q V) (wd : World) (hP : PrimeAt wd) (Nu : N256 u) :
    Calls Tryd.prog 32 #[V, .agg (BA u)] wd fun e w' => ∃ v, e = .returned v ∧ RG (Qd.core kN (ofI u) q) v ∧ Below wd.heap.size wd w' := by
  obtain ⟨x, z, v, w, rfl, hx, hz, hv, hw, rfl⟩ := hV
  refine (climbed_any x z v w u wd hP hx hz hv hw Nu).mono ?_
  rintro e w' ⟨⟨x', z', v', w2, rfl, h1, h2, h3, h4, h5⟩, hb⟩
  exact ⟨_, rfl, ⟨_, _, _, _, rfl, h1, h2, h3, h4, h5⟩, hb⟩
theorem stepp2 {f : FuncId} (hc : ∀ args w, (callFunc f args).run Tryd.prog w = .ok (.enter f args) w) {x y : Operand} {ts : Array TypeId} {o : Oper} {a : Act} {w : World} {K : Act → World → Prop} {Q : Exit → Act → World → Prop} {p : Value → Prop}
    (ho : o.op = .call { callee := .value (.func f), args := #[x, y], argTypes := ts }) {V V2 : Value} (hx : a.eval x = V) (hy : a.eval y = V2) (hC : Calls Tryd.prog f #[V, V2] w fun r w' => ∃ v, r = .returned v ∧ p v ∧ Below w.heap.size w w')
    (h : ∀ v w', p v → Below w.heap.size w w' → K (a.put o.dst v) w') : o.wp Tryd.prog a w K Q := by
  refine wp_enter (exec_call hc #[x, y] ts ho) ?_
  simp only [List.map_toArray, List.map_cons, List.map_nil, hx, hy]
  exact hC.mono (fun e w' ⟨v, he, hp, hb⟩ => ⟨v, he, h v w' hp hb⟩)
theorem stepp3 {f : FuncId} (hc : ∀ args w, (callFunc f args).run Tryd.prog w = .ok (.enter f args) w) {x y z : Operand} {ts : Array TypeId} {o : Oper} {a : Act} {w : World} {K : Act → World → Prop} {Q : Exit → Act → World → Prop} {p : Value → Prop}
    (ho : o.op = .call { callee := .value (.func f), args := #[x, y, z], argTypes := ts }) {V V2 V3 : Value} (hx : a.eval x = V) (hy : a.eval y = V2) (hz : a.eval z = V3) (hC : Calls Tryd.prog f #[V, V2, V3] w fun r w' => ∃ v, r = .returned v ∧ p v ∧ Below w.heap.size w w')
    (h : ∀ v w', p v → Below w.heap.size w w' → K (a.put o.dst v) w') : o.wp Tryd.prog a w K Q := by
  refine wp_enter (exec_call hc #[x, y, z] ts ho) ?_
  simp only [List.map_toArray, List.map_cons, List.map_nil, hx, hy, hz]
  exact hC.mono (fun e w' ⟨v, he, hp, hb⟩ => ⟨v, he, h v w' hp hb⟩)
theorem enterSwapped (args : Array Value) (w : World) : (callFunc 31 args).run Tryd.prog w = .ok (.enter 31 args) w := by kernel_rfl
theorem enterClimbed (args : Array Value) (w : World) : (callFunc 32 args).run Tryd.prog w = .ok (.enter 32 args) w := by kernel_rfl
theorem enterStep (args : Array Value) (w : World) : (callFunc 19 args).run Tryd.prog w = .ok (.enter 19 args) w := by kernel_rfl
theorem enterBitOf (args : Array Value) (w : World) : (callFunc 20 args).run Tryd.prog w = .ok (.enter 20 args) w := by kernel_rfl
theorem act_rg {a : Act} {o : Oper} {wd : World} {K : Act → World → Prop} {Q : Exit → Act → World → Prop} {X Y : Operand} (ho : o.op = .store 33 X Y)
    {g : Nat} (hx : a.eval X = .pointer (some ⟨g, 0, none⟩)) {q : Qd pN} (hy : RG q (a.eval Y)) {x z v w : Int} (hg : wd.heap[g]? = some (.cells (Q4 x z v w) 33 (0, 0)))
    (h : ∀ w2, ContOK (RGo q) w2 g → Only g wd w2 → K (a.put o.dst undef) w2) : o.wp Tryd.prog a wd K Q := by
  obtain ⟨x', z', v', w', e, h1, h2, h3, h4, h5⟩ := hy
  exact act_rungs ho hx e hg (Q4_size _ _ _ _) (fun w2 hg2 ho2 => h w2 ⟨_, hg2, x', z', v', w', rfl, h1, h2, h3, h4, h5⟩ ho2)
theorem exec_sub254 {a : Act} {o : Oper} {w : World} {x : Operand} (ho : o.op = .binOp .sub 3 (.const (.int .i64 254)) x 3) {n : Nat} (hx : a.eval x = .int .i64 (n : Int)) (hn : n ≤ 255) : (execOp a.eval o).run Tryd.prog w = .ok (.value (.int .i64 (254 - (n : Int)))) w := by
  have h : IntKind.i64.wrap (254 - (n : Int)) = 254 - (n : Int) := by rw [IntKind.wrap_i64]; omega
  unfold execOp
  simp only [ho, hx]
  simp [Act.eval, go_sem, h]
set_option maxHeartbeats 1000000 in
set_option maxRecDepth 100000 in
theorem step_rg (u : Int) (b : Bool) (q : Qd pN) (VV : Value) (hV : RG q VV) (wd : World) (hP : PrimeAt wd) (Nu : N256 u) :
    Calls Tryd.prog 19 #[VV, .int .u8 (bI b), .agg (BA u)] wd fun e w' => ∃ v, e = .returned v ∧ RG (Qd.step kN (ofI u) b q) v ∧ Below wd.heap.size wd w' := by
  have hV0 := hV
  obtain ⟨x, z, v, w, rfl, -⟩ := hV0
  have hz := primeAt_pos hP
  have hzero := zero_rungs
  have HP := Hid.mk hP
  clear hP
  go_enter Tryd.func19, Tryd.ntmps19
  go_wp2_with fail
  refine wp_gen (fun v0 => v0.heap[wd.heap.size]? = some (.cells (Q4 x z v w) 33 (0, 0)) ∧ v0.heap[wd.heap.size + 1]? = some (.cells (BA u) 22 (0, 0)) ∧ v0.heap[wd.heap.size + 1 + 1]? = some (.cells (Q4 0 0 0 0) 33 (0, 0)) ∧ Keep wd v0)
    ⟨heap_a31 wd _ _ _, heap_a32 wd _ _ _, heap_a3 wd _ _ _, keep_below hz ⟨Below.refl _ _, HP.out⟩ (by repeat first | exact Below.refl _ _ | refine Below.alloc ?_ (by simp <;> omega) _)⟩ ?_
  rintro v0 ⟨g3, g5, g6, hK⟩
  clear hzero HP
  refine wp_region3 (Keep wd) v0.heap.size
    [(wd.heap.size, fixd (Q4 x z v w) 33), ((wd.heap.size + 1), fixd (BA u) 22), ((wd.heap.size + 1 + 1), ⟨isOb (Q4 0 0 0 0) 33, [(7, RGo (Qd.step kN (ofI u) b q))]⟩)]
    [kv (.agg (Q4 x z v w)), kv (.int .u8 (bI b)), .val (RG (Qd.turn b q)), kv (.agg (BA u)), .val (RG (Qd.core kN (ofI u) (Qd.turn b q))), kv (.int .u8 (bI b)), .val (RG (Qd.step kN (ofI u) b q)), .val fun _ => True]
    [.none, .none, .none, .none, .none, .none, .none, .base 2 1]
    [some 7, some 8, some 9, some 10, some 11, some 12, some 13, none]
    [(1, .int .u8 (bI b)), (3, .pointer (some ⟨wd.heap.size, 0, none⟩)), (5, .pointer (some ⟨(wd.heap.size + 1), 0, none⟩)), (6, .pointer (some ⟨(wd.heap.size + 1 + 1), 0, none⟩))]
    [[.base 0 0], [], [.slot 0, .slot 1], [.base 1 0], [.slot 2, .slot 3], [], [.slot 4, .slot 5], [.base 2 0, .slot 6]]
    [.base 2 1] [7, 8, 9, 10, 11, 12, 13]
    rfl (by kernel_rfl) ⟨rfl, rfl, rfl, rfl, trivial⟩ (keep_drew hK) (Nat.le_refl _) ⟨⟨heap_lt g3, obIn g3⟩, ⟨heap_lt g5, obIn g5⟩, ⟨heap_lt g6, obIn g6⟩, trivial⟩ ⟨⟨trivial, (show (wd.heap.size : Nat) ≠ (wd.heap.size + 1 + 1) from by omega), trivial⟩, ⟨(show ((wd.heap.size + 1) : Nat) ≠ (wd.heap.size + 1 + 1) from by omega), trivial⟩, trivial, trivial⟩ (keep_G hz hK.1.size ⟨by omega, by omega, by omega, trivial⟩)
    ⟨
      -- 0
      (fun Q aq ww own hS hBg fr kn => .inl ⟨trivial, fun K hK => wp_value (look_rungs rfl fr.2.1 (obAt kn.1)) (hK _ _ ⟨Touch.refl _ _, rfl⟩)⟩),
      -- 1
      (fun Q aq ww own hS hBg fr kn => .inl ⟨trivial, fun K hK => wp_value (exec_move _ rfl) (hK _ _ ⟨Touch.refl _ _, fr.1⟩)⟩),
      -- 2
      (fun Q aq ww own hS hBg fr kn => .inl ⟨trivial, fun K hK => stepp2 enterSwapped rfl kn.1 kn.2.1 (swapped_rg b q _ hV ww) (fun v w' hp hb => hK _ _ ⟨touch_below hb, hp⟩)⟩),
      -- 3
      (fun Q aq ww own hS hBg fr kn => .inl ⟨trivial, fun K hK => wp_value (lookb rfl fr.2.2.1 (obAt kn.1)) (hK _ _ ⟨Touch.refl _ _, rfl⟩)⟩),
      -- 4
      (fun Q aq ww own hS hBg fr kn => .inl ⟨trivial, fun K hK => stepp2 enterClimbed rfl rfl kn.2.1 (climbed_rg u _ _ kn.1 ww hS.2 Nu) (fun v w' hp hb => hK _ _ ⟨touch_below hb, hp⟩)⟩),
      -- 5
      (fun Q aq ww own hS hBg fr kn => .inl ⟨trivial, fun K hK => wp_value (exec_move _ rfl) (hK _ _ ⟨Touch.refl _ _, fr.1⟩)⟩),
      -- 6
      (fun Q aq ww own hS hBg fr kn => .inl ⟨trivial, fun K hK => stepp2 enterSwapped rfl rfl kn.2.1 (swapped_rg b _ _ kn.1 ww) (fun v w' hp hb => hK _ _ ⟨touch_below hb, hp⟩)⟩),
      -- 7
      (fun Q aq ww own hS hBg fr kn => .inl ⟨trivial, fun K hK => act_rg rfl fr.2.2.2.1 kn.2.1 (obAt kn.1) (fun w2 hg ho => hK _ _ ⟨⟨touch_only ho, hg⟩, trivial⟩)⟩),
      trivial⟩ ?_
  intro vs own v1 hK1 hs1 kn inj
  obtain ⟨ob, g6, x', z', v', w', rfl, h1, h2, h3, h4, h5⟩ := kn.1
  simp only [putAll, Act.put, List.setIfInBounds_toArray, List.set_cons_zero, List.set_cons_succ]
  go_wp2
  exact bodyPost_ret (v := .agg (Q4 x' z' v' w')) (results_cell_row rfl _ _ _ _ _ _ _ rfl g6 Tryd.underlying33 rfl (by rw [Q4_size]; exact info128r)) rfl
    ⟨_, rfl, ⟨_, _, _, _, rfl, h1, h2, h3, h4, h5⟩, hK1.1⟩
theorem of1 : (1 : Int) % P255 = 1 := by decide +kernel
theorem of0 : (0 : Int) % P255 = 0 := by decide +kernel
set_option maxHeartbeats 1000000 in
set_option maxRecDepth 100000 in
theorem mult_any (k u : Int) (w : World) (hP : PrimeAt w) (hk : N256 k) :
    Calls Tryd.prog 9 #[.agg (BA k), .agg (BA u)] w fun e w' => e = .returned (.agg (BA (tN k u))) ∧ Below w.heap.size w w' := by
  have hz := primeAt_pos hP
  have HP := Hid.mk hP
  have HK := Hid.mk hk
  have HL := Hid.mk (BA_low u)
  have hx0 : N256 (u % W255) := by unfold N256 W256 W255; omega
  have HX0 := Hid.mk hx0
  have hb31 := byt_byte u 31
  unfold Byte at hb31
  obtain ⟨hb310, hb311⟩ := hb31
  have e127 := and127_u8 (byt u 31) hb310 hb311
  clear hk hx0 hP
  go_enter Tryd.func9, Tryd.ntmps9
  go_wp2_with (refine ld_bytes rfl _ rfl _ _ rfl (heap_a31 w _ _ _) (BA_size _) ?_)
  refine (clamp_any k _ HK.out).mono ?_
  rintro e v1 ⟨rfl, hb1⟩
  have gk := bheap hb1 (heap_a31 w _ _ _) (by simp <;> omega)
  have gu := bheap hb1 (heap_a32 w _ _ _) (by simp <;> omega)
  have gz := bheap hb1 (heap_a3 w _ _ _) (by simp <;> omega)
  have hB : Below w.heap.size w v1 := by
    refine Below.trans ?_ (hb1.mono (by simp <;> omega))
    repeat first | exact Below.refl _ _ | refine Below.alloc ?_ (by simp <;> omega) _
  clear hb1
  go_wp2_with (refine st_bytesS (by rfl) (by rfl) gk (BA_size _) ?_; intro v2 gk2 o2; refine Hid.out ?_)
  replace gu := (o2.block _ (by omega)).trans gu
  replace gz := (o2.block _ (by omega)).trans gz
  replace hB := Below.trans hB (Only.below (b := w.heap.size) (B := w.heap.size) o2 (Nat.le_refl _))
  clear gk o2
  refine Hid.mk ?_
  have cu := (cell_of_row v2 (w.heap.size + 1) 31 _ _ _ gu).trans (BA_get u 31 (by omega))
  have fu := frozen_of_row v2 (w.heap.size + 1) 31 _ _ gu
  generalize byt u 31 = x31 at *
  go_wp2_with (refine ld_bytes rfl _ rfl (w.heap.size + 1) _ rfl (heap_setCell_same _ _ _ _ _ _ gu) (by simp [BA_size]) ?_; rw [HL.out])
  refine (canon_any (u % W255) _ HX0.out.1 HX0.out.2).mono ?_
  rintro e v3 ⟨rfl, hb3⟩
  have gk3 := bheap hb3 ((heap_setCell_other _ _ _ _ (by simp)).trans gk2) (by have := heap_lt gk2; simp; omega)
  have gz3 := bheap hb3 ((heap_setCell_other _ _ _ _ (by simp)).trans gz) (by have := heap_lt gz; simp; omega)
  have hB3 : Below w.heap.size w v3 := Below.trans (Below.setCell hB (by simp) _) (hb3.mono (by have := hB.size; simp; omega))
  clear hb3 gk2 gz hB gu cu fu e127
  have NX := N256.mod (u % W255)
  obtain ⟨x, hxe⟩ : ∃ x, u % W255 % P255 = x := ⟨_, rfl⟩
  rw [hxe] at NX ⊢
  have HXE := Hid.mk hxe
  clear hxe
  go_wp2_with (refine st_bytesS (by rfl) (by rfl) (heap_alloc_new v3 _) (by rfl) ?_; intro v4 gx o4; refine Hid.out ?_)
  have hs3 := heap_lt gz3
  replace gk3 := (o4.block _ (Nat.ne_of_lt (heap_lt gk3))).trans ((Below.heap_alloc v3 _ _ (heap_lt gk3)).trans gk3)
  replace gz3 := (o4.block _ (Nat.ne_of_lt (heap_lt gz3))).trans ((Below.heap_alloc v3 _ _ (heap_lt gz3)).trans gz3)
  replace hB3 := Below.trans (hB3.alloc hB3.size _) (Only.below (b := v3.heap.size) (B := w.heap.size) o4 hB3.size)
  clear o4
  generalize v3.heap.size = bx at *
  have hK : Keep w v4 := keep_below hz ⟨Below.refl _ _, HP.out⟩ hB3
  clear hB3
  refine Hid.mk ?_
  have NN := clampN_256 k
  obtain ⟨N, hN⟩ : ∃ N, clampN k = N := ⟨_, rfl⟩
  have HN := Hid.mk hN
  rw [hN] at gk3 NN
  clear hN
  have gk := gk3
  have gz := gz3
  clear gk3 gz3
  go_wp2_with fail
  refine wp_region3 (Keep w) v4.heap.size
    [(bx, fixd (BA x) 22), (w.heap.size, fixd (BA N) 22), ((w.heap.size + 1 + 1), fixd (BA 0) 22)]
    [kv (.agg (BA 1)), kv (.agg (BA 0)), kv (.agg (BA x)), kv (.agg (BA 1)), kv (.agg (Q4 1 0 x 1)), kp (Q4 0 0 0 0) 33 6 (Q4 1 0 x 1), .val fun _ => True]
    [.none, .none, .none, .none, .none, .none, .own 5 1]
    [some 16, some 17, some 18, some 19, some 20, some 6, none]
    [(5, .pointer (some ⟨bx, 0, none⟩))]
    [[], [], [.base 0 0], [], [.slot 0, .slot 1, .slot 2, .slot 3], [], [.slot 5, .cont 5 0, .slot 4]]
    [.slot 5, .cont 5 1, .base 0 0, .base 1 0, .base 2 0] [16, 17, 18, 19, 20, 6]
    rfl (by kernel_rfl) ⟨rfl, trivial⟩ (keep_drew hK) (Nat.le_refl _) ⟨⟨heap_lt gx, obIn gx⟩, ⟨heap_lt gk, obIn gk⟩, ⟨heap_lt gz, obIn gz⟩, trivial⟩ ⟨⟨trivial, trivial, trivial⟩, ⟨trivial, trivial⟩, trivial, trivial⟩ (keep_G hz hK.1.size ⟨by omega, by omega, by omega, trivial⟩)
    ⟨
      -- 0
      (fun Q aq ww own hS hBg fr kn => .inl ⟨trivial, fun K hK => stepc1 enterOf rfl rfl (of_any 1 ww hS.2 (by omega) (by omega)) (fun w' hb => hK _ _ ⟨touch_below hb, (congrArg (fun n => Value.agg (BA n)) of1)⟩)⟩),
      -- 1
      (fun Q aq ww own hS hBg fr kn => .inl ⟨trivial, fun K hK => stepc1 enterOf rfl rfl (of_any 0 ww hS.2 (by omega) (by omega)) (fun w' hb => hK _ _ ⟨touch_below hb, (congrArg (fun n => Value.agg (BA n)) of0)⟩)⟩),
      -- 2
      (fun Q aq ww own hS hBg fr kn => .inl ⟨trivial, fun K hK => wp_value (lookb rfl fr.1 (obAt kn.1)) (hK _ _ ⟨Touch.refl _ _, rfl⟩)⟩),
      -- 3
      (fun Q aq ww own hS hBg fr kn => .inl ⟨trivial, fun K hK => stepc1 enterOf rfl rfl (of_any 1 ww hS.2 (by omega) (by omega)) (fun w' hb => hK _ _ ⟨touch_below hb, (congrArg (fun n => Value.agg (BA n)) of1)⟩)⟩),
      -- 4
      (fun Q aq ww own hS hBg fr kn => .inl ⟨trivial, fun K hK => wp_value (exec_rung4 rfl kn.1 kn.2.1 kn.2.2.1 kn.2.2.2.1) (hK _ _ ⟨Touch.refl _ _, rfl⟩)⟩),
      -- 5
      (fun Q aq ww own hS hBg fr kn => .inl ⟨trivial, fun K hK => act_alloc zero_rungs rfl (fun w' hb hg => hK _ _ ⟨touch_below hb, _, Nat.le_refl _, rfl, obIn hg⟩)⟩),
      -- 6
      (fun Q aq ww own hS hBg fr kn => .inl ⟨trivial, fun K hK => act_rungs rfl kn.1.1 kn.2.2.1 (obAt kn.2.1) (Q4_size _ _ _ _) (fun w2 hg ho => hK _ _ ⟨touch_only ho, obIn hg, trivial⟩)⟩),
      trivial⟩ ?_
  intro vs own v5 hK5 hs5 kn inj
  have e6 : vs 6 = .pointer (some ⟨own 5, 0, none⟩) := kn.1.1
  have l6 : v4.heap.size ≤ own 5 := kn.1.2.1
  have gp := obAt kn.2.1
  have gx5 := obAt kn.2.2.1
  have gk5 := obAt kn.2.2.2.1
  have gz5 := obAt kn.2.2.2.2.1
  have hl4 := heap_lt gz
  have hlx := heap_lt gx
  clear kn inj gx gk gz
  generalize own 5 = bp at *
  simp only [putAll, Act.put, List.setIfInBounds_toArray, List.set_cons_zero, List.set_cons_succ, e6]
  have hbp : w.heap.size + 3 ≤ bp := by omega
  have hbxp : bx < bp := by omega
  clear e6 l6 hl4 hlx hK own hs5
  go_wp2
  go_loopg [21] 255 (fun m i v => ∃ (j : Nat) (X Z V W : Int), Hid (m + j = 255) ∧ i = .int .i64 (j : Int) ∧ N256 X ∧ N256 Z ∧ N256 V ∧ N256 W ∧ Hid (QI X Z V W = Qd.run kN (ofI x) (topList N.toNat j) (Qd.start (ofI x))) ∧
    v.heap[w.heap.size]? = some (.cells (BA N) 22 (0, 0)) ∧ v.heap[w.heap.size + 1 + 1]? = some (.cells (BA 0) 22 (0, 0)) ∧ v.heap[bx]? = some (.cells (BA x) 22 (0, 0)) ∧ v.heap[bp]? = some (.cells (Q4 X Z V W) 33 (0, 0)) ∧ Keep w v)
  case atStart => exact ⟨0, 1, 0, x, 1, Hid.mk rfl, rfl, N256_1', N256_0', NX, N256_1', Hid.mk (start_link x), gk5, gz5, gx5, gp, hK5⟩
  case round =>
    clear gk5 gz5 gx5 gp hK5
    obtain ⟨j, X, Z, V, W, HJ, rfl, nX, nZ, nV, nW, HQ, gk, gz, gx, gp, hK⟩ := hrel
    have hj255 : j ≤ 255 := by have := HJ.out; omega
    by_cases hj : j < 255
    · go_wp2_with fail
      refine wp_region3 (Keep w) wr.heap.size
        [(bp, ⟨isOb (Q4 X Z V W) 33, [(7, RGo (Qd.step kN (ofI x) (N.toNat.testBit (254 - j)) (QI X Z V W)))]⟩), (w.heap.size, fixd (BA N) 22), (bx, fixd (BA x) 22), ((w.heap.size + 1 + 1), fixd (BA 0) 22)]
        [kv (.agg (Q4 X Z V W)), kv (.agg (BA N)), kv (.int .i64 (j : Int)), kv (.int .i64 (254 - (j : Int))), kv (.int .u8 (bI (N.toNat.testBit (254 - j)))), kv (.agg (BA x)), .val (RG (Qd.step kN (ofI x) (N.toNat.testBit (254 - j)) (QI X Z V W))), .val fun _ => True]
        [.none, .none, .none, .none, .none, .none, .none, .base 0 1]
        [some 24, some 25, some 26, some 27, some 28, some 29, some 30, none]
        [(2, .pointer (some ⟨w.heap.size, 0, none⟩)), (5, .pointer (some ⟨bx, 0, none⟩)), (6, .pointer (some ⟨bp, 0, none⟩)), (7, .int .i64 (j : Int))]
        [[.base 0 0], [.base 1 0], [], [.slot 2], [.slot 1, .slot 3], [.base 2 0], [.slot 0, .slot 4, .slot 5], [.base 0 0, .slot 6]]
        [.base 0 1, .base 1 0, .base 2 0, .base 3 0] [24, 25, 26, 27, 28, 29, 30]
        rfl (by kernel_rfl) ⟨rfl, rfl, rfl, rfl, trivial⟩ (keep_drew hK) (Nat.le_refl _) ⟨⟨heap_lt gp, obIn gp⟩, ⟨heap_lt gk, obIn gk⟩, ⟨heap_lt gx, obIn gx⟩, ⟨heap_lt gz, obIn gz⟩, trivial⟩ ⟨⟨(show (bp : Nat) ≠ w.heap.size from by omega), (show (bp : Nat) ≠ bx from by omega), (show (bp : Nat) ≠ (w.heap.size + 1 + 1) from by omega), trivial⟩, ⟨trivial, trivial, trivial⟩, ⟨trivial, trivial⟩, trivial, trivial⟩ (keep_G hz hK.1.size ⟨by omega, by omega, by omega, by omega, trivial⟩)
        ⟨
          -- 0
          (fun Q aq ww own hS hBg fr kn => .inl ⟨trivial, fun K hK => wp_value (look_rungs rfl fr.2.2.1 (obAt kn.1)) (hK _ _ ⟨Touch.refl _ _, rfl⟩)⟩),
          -- 1
          (fun Q aq ww own hS hBg fr kn => .inl ⟨trivial, fun K hK => wp_value (lookb rfl fr.1 (obAt kn.1)) (hK _ _ ⟨Touch.refl _ _, rfl⟩)⟩),
          -- 2
          (fun Q aq ww own hS hBg fr kn => .inl ⟨trivial, fun K hK => wp_value (exec_move _ rfl) (hK _ _ ⟨Touch.refl _ _, fr.2.2.2.1⟩)⟩),
          -- 3
          (fun Q aq ww own hS hBg fr kn => .inl ⟨trivial, fun K hK => wp_value (exec_sub254 rfl kn.1 hj255) (hK _ _ ⟨Touch.refl _ _, rfl⟩)⟩),
          -- 4
          (fun Q aq ww own hS hBg fr kn => .inl ⟨trivial, fun K hK => stepc2 enterBitOf rfl kn.1 kn.2.1 (bitOf_any N j ww NN.1 hj) (fun w' hb => hK _ _ ⟨touch_below hb, rfl⟩)⟩),
          -- 5
          (fun Q aq ww own hS hBg fr kn => .inl ⟨trivial, fun K hK => wp_value (lookb rfl fr.2.1 (obAt kn.1)) (hK _ _ ⟨Touch.refl _ _, rfl⟩)⟩),
          -- 6
          (fun Q aq ww own hS hBg fr kn => .inl ⟨trivial, fun K hK => stepp3 enterStep rfl kn.1 kn.2.1 kn.2.2.1 (step_rg x _ _ _ (RG_of X Z V W nX nZ nV nW) ww hS.2 NX) (fun v w' hp hb => hK _ _ ⟨touch_below hb, hp⟩)⟩),
          -- 7
          (fun Q aq ww own hS hBg fr kn => .inl ⟨trivial, fun K hK => act_rg rfl fr.2.2.1 kn.2.1 (obAt kn.1) (fun w2 hg ho => hK _ _ ⟨⟨touch_only ho, hg⟩, trivial⟩)⟩),
          trivial⟩ ?_
      intro vs8 own8 v6 hK6 hs6 kn inj
      obtain ⟨ob, gp6, X', Z', V', W', rfl, nX', nZ', nV', nW', hQ'⟩ := kn.1
      have gk6 := obAt kn.2.1
      have gx6 := obAt kn.2.2.1
      have gz6 := obAt kn.2.2.2.1
      have HQ2 : Hid (QI X' Z' V' W' = Qd.run kN (ofI x) (topList N.toNat (j + 1)) (Qd.start (ofI x))) := Hid.mk (by rw [topList_succ, run_snoc, ← HQ.out]; exact hQ')
      clear hQ' HQ kn inj gk gz gx gp hK
      simp only [putAll, Act.put, List.setIfInBounds_toArray, List.set_cons_zero, List.set_cons_succ]
      go_wp2
      go_roundg (255 - (j + 1))
      case rel => exact ⟨j + 1, X', Z', V', W', Hid.mk (by omega), by go_num, nX', nZ', nV', nW', HQ2, gk6, gz6, gx6, gp6, hK6⟩
      case measure => have := HJ.out; omega
    · have hj2 : j = 255 := by omega
      subst hj2
      have HE : Hid ((X * invN Z) % P255 = tN k u) := Hid.mk (lad_end k u X Z V W (by
        have e : ofI (u % W255) = ofI x := ofI_eq.2 (by have := HXE.out; have h2 := Int.emod_emod (u % W255) P255; rw [this] at h2; rw [this, h2])
        unfold keyBits
        rw [e, HN.out]
        exact HQ.out.symm))
      go_wp2_with fail
      refine wp_region3 (Keep w) wr.heap.size
        [(bp, fixd (Q4 X Z V W) 33), ((w.heap.size + 1 + 1), once (BA 0) 22 7 (BA (tN k u)))]
        [kv (.pointer (some ⟨bp, 0 * 32, none⟩)), kv (.agg (BA X)), kv (.pointer (some ⟨bp, 1 * 32, none⟩)), kv (.agg (BA Z)), kv (.agg (BA (invN Z))), ks 2 (BA X ++ BA (invN Z)) 22, kv (.agg (BA (tN k u))), .val fun _ => True]
        [.none, .none, .none, .none, .none, .none, .none, .base 1 1]
        [some 32, some 33, some 34, some 35, some 36, some 37, some 38, none]
        [(4, .pointer (some ⟨(w.heap.size + 1 + 1), 0, none⟩)), (6, .pointer (some ⟨bp, 0, none⟩))]
        [[], [.slot 0, .base 0 0], [], [.slot 2, .base 0 0], [.slot 3], [.slot 1, .slot 4], [.slot 5, .cont 5 0], [.base 1 0, .slot 6]]
        [.base 1 1] [32, 33, 34, 35, 36, 37, 38]
        rfl (by kernel_rfl) ⟨rfl, rfl, trivial⟩ (keep_drew hK) (Nat.le_refl _) ⟨⟨heap_lt gp, obIn gp⟩, ⟨heap_lt gz, obIn gz⟩, trivial⟩ ⟨⟨(show (bp : Nat) ≠ (w.heap.size + 1 + 1) from by omega), trivial⟩, trivial, trivial⟩ (keep_G hz hK.1.size ⟨by omega, by omega, trivial⟩)
        ⟨
          -- 0
          (fun Q aq ww own hS hBg fr kn => .inl ⟨trivial, fun K hK => wp_value (exec_fa rfl fr.2.1 (by decide)) (hK _ _ ⟨Touch.refl _ _, rfl⟩)⟩),
          -- 1
          (fun Q aq ww own hS hBg fr kn => .inl ⟨trivial, fun K hK => wp_value (lookf rfl kn.1 (range_in (obAt kn.2.1) (Q4_0' X Z V W))) (hK _ _ ⟨Touch.refl _ _, rfl⟩)⟩),
          -- 2
          (fun Q aq ww own hS hBg fr kn => .inl ⟨trivial, fun K hK => wp_value (exec_fa rfl fr.2.1 (by decide)) (hK _ _ ⟨Touch.refl _ _, rfl⟩)⟩),
          -- 3
          (fun Q aq ww own hS hBg fr kn => .inl ⟨trivial, fun K hK => wp_value (lookf rfl kn.1 (range_in (obAt kn.2.1) (Q4_1 X Z V W))) (hK _ _ ⟨Touch.refl _ _, rfl⟩)⟩),
          -- 4
          (fun Q aq ww own hS hBg fr kn => .inl ⟨trivial, fun K hK => stepc1 enterInv rfl kn.1 (inv_any Z ww hS.2 nZ) (fun w' hb => hK _ _ ⟨touch_below hb, rfl⟩)⟩),
          -- 5
          (fun Q aq ww own hS hBg fr kn => .inl ⟨trivial, fun K hK => actb2 rfl kn.1 kn.2.1 (fun v hg hb => hK _ _ ⟨touch_below hb, _, Nat.le_refl _, rfl, obIn hg⟩)⟩),
          -- 6
          (fun Q aq ww own hS hBg fr kn => .inl ⟨trivial, fun K hK => stepc1 enterMul rfl kn.1.1 (mul2 X (invN Z) _ ww nX (invN_256 Z) (rows2 (obAt kn.2.1)) kn.1.2.2) (fun w' hb => hK _ _ ⟨touch_below hb, (congrArg (fun n => Value.agg (BA n)) HE.out)⟩)⟩),
          -- 7
          (fun Q aq ww own hS hBg fr kn => .inl ⟨trivial, fun K hK => actbytes rfl fr.1 kn.2.1 (obAt kn.1) (fun w2 hg ho => hK _ _ ⟨⟨touch_only ho, obIn hg⟩, trivial⟩)⟩),
          trivial⟩ ?_
      intro vs8 own8 v6 hK6 hs6 kn inj
      have gz6 := obAt kn.1
      simp only [putAll, Act.put, List.setIfInBounds_toArray, List.set_cons_zero, List.set_cons_succ]
      go_wp2
      exact bodyPost_ret (v := .agg (BA (tN k u))) (results_cell_row rfl _ _ _ _ _ _ _ rfl gz6 Tryd.underlying22 rfl (by rw [BA_size]; exact info32)) rfl ⟨rfl, hK6.1⟩
end Go.Proofs.YtpcpcgfljffkeaaDoor
/-
  Own text. What Public and Shared of package curve give, and the document's Shared; that the examples hold.
-/
namespace Go.Proofs.YtpcpcgfljffkeaaDoor
open Go.RowKit Go.Proofs
theorem results_cellt {P : Program} {fn : Func} {p u : Tmp} {ty : TypeId} (h : fn.results = #[.cell p ty, .tmp u]) (tmps : Array Value) (w : World) (g : Nat) {v : Value}
    (hp : tmps.getD p undef = .pointer (some ⟨g, 0, none⟩)) (hq : tmps.getD u undef = v) {t : TypeId} {fr : Nat × Nat} {d : TypeDesc} (cs : Array Value) (hg : w.heap[g]? = some (.cells cs t fr))
    (hi : (P.info? ty).map (·.size) = some cs.size) (hu : P.underlying ty = some d) (hd : (match d with | .struct _ | .array _ _ => true | _ => false) = true) :
    (results fn tmps).run P w = .ok (.tuple #[.agg cs, v]) w := by
  have hp' : tmps[p]?.getD undef = .pointer (some ⟨g, 0, none⟩) := by simpa using hp
  have hq' : tmps[u]?.getD undef = v := by simpa using hq
  simp [results, h, hp', hq', asAddr, run_loadVar_row w g t ty cs fr d hg hu hd hi]
theorem enterMult (args : Array Value) (w : World) : (callFunc 9 args).run Tryd.prog w = .ok (.enter 9 args) w := by kernel_rfl
theorem of9 : (9 : Int) % P255 = 9 := by decide +kernel
set_option maxHeartbeats 1000000 in
set_option maxRecDepth 100000 in
theorem public_any (k : Int) (w : World) (hP : PrimeAt w) (Nk : N256 k) :
    Calls Tryd.prog 12 #[.agg (BA k)] w fun e w' => e = .returned (.agg (BA (tN k 9))) ∧ Below w.heap.size w w' := by
  have hz := primeAt_pos hP
  have HP := Hid.mk hP
  clear hP
  go_enter Tryd.func12, Tryd.ntmps12
  go_wp2_with fail
  refine wp_gen (fun v0 => v0.heap[w.heap.size]? = some (.cells (BA k) 22 (0, 0)) ∧ v0.heap[w.heap.size + 1]? = some (.cells (BA 0) 22 (0, 0)) ∧ Keep w v0)
    ⟨heap_alloc2_old w _ _, heap_alloc2_new w _ _, keep_below hz ⟨Below.refl _ _, HP.out⟩ (by repeat first | exact Below.refl _ _ | refine Below.alloc ?_ (by simp <;> omega) _)⟩ ?_
  rintro v0 ⟨g1, g2, hK⟩
  clear HP
  refine wp_region3 (Keep w) v0.heap.size
    [(w.heap.size, fixd (BA k) 22), ((w.heap.size + 1), once (BA 0) 22 3 (BA (tN k 9)))]
    [kv (.agg (BA k)), kv (.agg (BA 9)), kv (.agg (BA (tN k 9))), .val fun _ => True]
    [.none, .none, .none, .base 1 1]
    [some 3, some 4, some 5, none]
    [(1, .pointer (some ⟨w.heap.size, 0, none⟩)), (2, .pointer (some ⟨(w.heap.size + 1), 0, none⟩))]
    [[.base 0 0], [], [.slot 0, .slot 1], [.base 1 0, .slot 2]]
    [.base 1 1] [3, 4, 5]
    rfl (by kernel_rfl) ⟨rfl, rfl, trivial⟩ (keep_drew hK) (Nat.le_refl _) ⟨⟨heap_lt g1, obIn g1⟩, ⟨heap_lt g2, obIn g2⟩, trivial⟩ ⟨⟨(show (w.heap.size : Nat) ≠ (w.heap.size + 1) from by omega), trivial⟩, trivial, trivial⟩ (keep_G hz hK.1.size ⟨by omega, by omega, trivial⟩)
    ⟨
      -- 0
      (fun Q aq ww own hS hBg fr kn => .inl ⟨trivial, fun K hK => wp_value (lookb rfl fr.1 (obAt kn.1)) (hK _ _ ⟨Touch.refl _ _, rfl⟩)⟩),
      -- 1
      (fun Q aq ww own hS hBg fr kn => .inl ⟨trivial, fun K hK => stepc1 enterOf rfl rfl (of_any 9 ww hS.2 (by omega) (by omega)) (fun w' hb => hK _ _ ⟨touch_below hb, (congrArg (fun n => Value.agg (BA n)) of9)⟩)⟩),
      -- 2
      (fun Q aq ww own hS hBg fr kn => .inl ⟨trivial, fun K hK => stepc2 enterMult rfl kn.1 kn.2.1 (mult_any k 9 ww hS.2 Nk) (fun w' hb => hK _ _ ⟨touch_below hb, rfl⟩)⟩),
      -- 3
      (fun Q aq ww own hS hBg fr kn => .inl ⟨trivial, fun K hK => actbytes rfl fr.2.1 kn.2.1 (obAt kn.1) (fun w2 hg ho => hK _ _ ⟨⟨touch_only ho, obIn hg⟩, trivial⟩)⟩),
      trivial⟩ ?_
  intro vs own v1 hK1 hs1 kn inj
  have g3 := obAt kn.1
  simp only [putAll, Act.put, List.setIfInBounds_toArray, List.set_cons_zero, List.set_cons_succ]
  go_wp2
  exact bodyPost_ret (v := .agg (BA (tN k 9))) (results_cell_row rfl _ _ _ _ _ _ _ rfl g3 Tryd.underlying22 rfl (by rw [BA_size]; exact info32)) rfl ⟨rfl, hK1.1⟩
set_option maxHeartbeats 1000000 in
set_option maxRecDepth 100000 in
theorem shared_any (k u : Int) (w : World) (hP : PrimeAt w) (hk : N256 k) :
    Calls Tryd.prog 7 #[.agg (BA k), .agg (BA u)] w fun e w' => e = .returned (.tuple #[.agg (BA (tN k u)), .bool (!(tN k u == 0))]) ∧ Below w.heap.size w w' := by
  have hz := primeAt_pos hP
  have HP := Hid.mk hP
  clear hP
  have HK := Hid.mk hk
  clear hk
  go_enter Tryd.func7, Tryd.ntmps7
  go_wp2_with (first | (refine ld_bytes rfl _ rfl w.heap.size (BA k) rfl (heap_a31 w _ _ _) (BA_size _) ?_) | (refine ld_bytes rfl _ rfl (w.heap.size + 1) (BA u) rfl (heap_a32 w _ _ _) (BA_size _) ?_))
  refine (mult_any k u _ (primeAt_below HP.out (B := w.heap.size) (by repeat first | exact Below.refl _ _ | refine Below.alloc ?_ (by simp <;> omega) _) hz) HK.out).mono ?_
  rintro e v1 ⟨rfl, hb1⟩
  have gz := bheap hb1 (heap_a3 w _ _ _) (by simp <;> omega)
  have hB : Below w.heap.size w v1 := by
    refine Below.trans ?_ (hb1.mono (by simp <;> omega))
    repeat first | exact Below.refl _ _ | refine Below.alloc ?_ (by simp <;> omega) _
  clear hb1
  have Ns := tN_256 k u
  obtain ⟨s, hs⟩ : ∃ s, tN k u = s := ⟨_, rfl⟩
  rw [hs] at Ns ⊢
  have HS := Hid.mk hs
  clear hs
  go_wp2_with (refine st_bytesS (by rfl) (by rfl) (heap_alloc_new v1 _) (by rfl) ?_; intro v2 g6 o2; refine Hid.out ?_)
  have hl := heap_lt gz
  replace gz := (o2.block _ (Nat.ne_of_lt (heap_lt gz))).trans ((Below.heap_alloc v1 _ _ (heap_lt gz)).trans gz)
  replace hB := Below.trans (hB.alloc hB.size _) (Only.below (b := v1.heap.size) (B := w.heap.size) o2 hB.size)
  clear o2
  generalize v1.heap.size = b6 at *
  have hK : Keep w v2 := keep_below hz ⟨Below.refl _ _, HP.out⟩ hB
  clear hB
  refine Hid.mk ?_
  go_wp2_with fail
  refine wp_region3 (Keep w) v2.heap.size
    [(b6, fixd (BA s) 22), ((w.heap.size + 1 + 1), once (BA 0) 22 4 (BA s))]
    [kv (.agg (BA s)), kv (.agg (BA s)), kv (.agg (BA 0)), kv (.bool (!(s == 0))), .val fun _ => True, kv (.bool (!(s == 0)))]
    [.none, .none, .none, .none, .base 1 1, .none]
    [some 10, some 11, some 12, some 13, none, some 5]
    [(4, .pointer (some ⟨(w.heap.size + 1 + 1), 0, none⟩)), (6, .pointer (some ⟨b6, 0, none⟩))]
    [[.base 0 0], [.base 0 0], [], [.slot 1, .slot 2], [.base 1 0, .slot 0], [.slot 3]]
    [.slot 5, .base 1 1] [10, 11, 12, 13, 5]
    rfl (by kernel_rfl) ⟨rfl, rfl, trivial⟩ (keep_drew hK) (Nat.le_refl _) ⟨⟨heap_lt g6, obIn g6⟩, ⟨heap_lt gz, obIn gz⟩, trivial⟩ ⟨⟨(show (b6 : Nat) ≠ (w.heap.size + 1 + 1) from by omega), trivial⟩, trivial, trivial⟩ (keep_G hz hK.1.size ⟨by omega, by omega, trivial⟩)
    ⟨
      -- 0
      (fun Q aq ww own hS hBg fr kn => .inl ⟨trivial, fun K hK => wp_value (lookb rfl fr.2.1 (obAt kn.1)) (hK _ _ ⟨Touch.refl _ _, rfl⟩)⟩),
      -- 1
      (fun Q aq ww own hS hBg fr kn => .inl ⟨trivial, fun K hK => wp_value (lookb rfl fr.2.1 (obAt kn.1)) (hK _ _ ⟨Touch.refl _ _, rfl⟩)⟩),
      -- 2
      (fun Q aq ww own hS hBg fr kn => .inl ⟨trivial, fun K hK => wp_value (exec_build0 rfl) (hK _ _ ⟨Touch.refl _ _, rfl⟩)⟩),
      -- 3
      (fun Q aq ww own hS hBg fr kn => .inl ⟨trivial, fun K hK => wp_value (neq_bytes _ _ _ rfl s 0 kn.1 kn.2.1 Ns N256_0') (hK _ _ ⟨Touch.refl _ _, rfl⟩)⟩),
      -- 4
      (fun Q aq ww own hS hBg fr kn => .inl ⟨trivial, fun K hK => actbytes rfl fr.1 kn.2.1 (obAt kn.1) (fun w2 hg ho => hK _ _ ⟨⟨touch_only ho, obIn hg⟩, trivial⟩)⟩),
      -- 5
      (fun Q aq ww own hS hBg fr kn => .inl ⟨trivial, fun K hK => wp_value (exec_assign _ rfl) (hK _ _ ⟨Touch.refl _ _, kn.1⟩)⟩),
      trivial⟩ ?_
  intro vs own v3 hK3 hs3 kn inj
  have e5 : vs 5 = .bool (!(s == 0)) := kn.1
  have gz3 := obAt kn.2.1
  clear kn inj
  simp only [putAll, Act.put, List.setIfInBounds_toArray, List.set_cons_zero, List.set_cons_succ, e5]
  go_wp2
  exact bodyPost_ret (v := .tuple #[.agg (BA s), .bool (!(s == 0))]) (results_cellt (v := .bool (!(s == 0))) (p := 4) (u := 5) rfl _ _ _ (by rfl) (by rfl) _ gz3 (by rw [BA_size]; exact info32) Tryd.underlying22 rfl) rfl ⟨by rw [HS.out], hK3.1⟩
set_option maxHeartbeats 1000000 in
set_option maxRecDepth 100000 in
theorem rshared_any (k u : Int) (w : World) (hk : N256 k) :
    Calls Tryd.prog 8 #[.agg (BA k), .agg (BA u)] w fun e w' => e = .returned (.tuple #[.agg (BA (tN k u)), .bool (!(tN k u == 0))]) ∧ Below w.heap.size w w' := by
  have HK := Hid.mk hk
  clear hk
  go_enter Tryd.func8, Tryd.ntmps8
  go_wp2_with (first | (refine ld_bytes rfl _ rfl w.heap.size (BA k) rfl (heap_a31 w _ _ _) (BA_size _) ?_) | (refine ld_bytes rfl _ rfl (w.heap.size + 1) (BA u) rfl (heap_a32 w _ _ _) (BA_size _) ?_))
  refine (rmult_any k u _ HK.out).mono ?_
  rintro e v1 ⟨rfl, hb1⟩
  have gz := bheap hb1 (heap_a3 w _ _ _) (by simp <;> omega)
  have hB : Below w.heap.size w v1 := by
    refine Below.trans ?_ (hb1.mono (by simp <;> omega))
    repeat first | exact Below.refl _ _ | refine Below.alloc ?_ (by simp <;> omega) _
  clear hb1
  have Ns := tN_256 k u
  obtain ⟨s, hs⟩ : ∃ s, tN k u = s := ⟨_, rfl⟩
  rw [hs] at Ns ⊢
  have HS := Hid.mk hs
  clear hs
  go_wp2_with (refine st_bytesS (by rfl) (by rfl) (heap_alloc_new v1 _) (by rfl) ?_; intro v2 g6 o2; refine Hid.out ?_)
  have hl := heap_lt gz
  replace gz := (o2.block _ (Nat.ne_of_lt (heap_lt gz))).trans ((Below.heap_alloc v1 _ _ (heap_lt gz)).trans gz)
  replace hB := Below.trans (hB.alloc hB.size _) (Only.below (b := v1.heap.size) (B := w.heap.size) o2 hB.size)
  clear o2
  generalize v1.heap.size = b6 at *
  have hK := hB
  clear hB
  refine Hid.mk ?_
  go_wp2_with fail
  refine wp_region3 (Below w.heap.size w) v2.heap.size
    [(b6, fixd (BA s) 22), ((w.heap.size + 1 + 1), once (BA 0) 22 4 (BA s))]
    [kv (.agg (BA s)), kv (.agg (BA s)), kv (.agg (BA 0)), kv (.bool (!(s == 0))), .val fun _ => True, kv (.bool (!(s == 0)))]
    [.none, .none, .none, .none, .base 1 1, .none]
    [some 10, some 11, some 12, some 13, none, some 5]
    [(4, .pointer (some ⟨(w.heap.size + 1 + 1), 0, none⟩)), (6, .pointer (some ⟨b6, 0, none⟩))]
    [[.base 0 0], [.base 0 0], [], [.slot 1, .slot 2], [.base 1 0, .slot 0], [.slot 3]]
    [.slot 5, .base 1 1] [10, 11, 12, 13, 5]
    rfl (by kernel_rfl) ⟨rfl, rfl, trivial⟩ (Below.drew hK) (Nat.le_refl _) ⟨⟨heap_lt g6, obIn g6⟩, ⟨heap_lt gz, obIn gz⟩, trivial⟩ ⟨⟨(show (b6 : Nat) ≠ (w.heap.size + 1 + 1) from by omega), trivial⟩, trivial, trivial⟩ (below_G hK.size ⟨by omega, by omega, trivial⟩)
    ⟨
      -- 0
      (fun Q aq ww own hS hBg fr kn => .inl ⟨trivial, fun K hK => wp_value (lookb rfl fr.2.1 (obAt kn.1)) (hK _ _ ⟨Touch.refl _ _, rfl⟩)⟩),
      -- 1
      (fun Q aq ww own hS hBg fr kn => .inl ⟨trivial, fun K hK => wp_value (lookb rfl fr.2.1 (obAt kn.1)) (hK _ _ ⟨Touch.refl _ _, rfl⟩)⟩),
      -- 2
      (fun Q aq ww own hS hBg fr kn => .inl ⟨trivial, fun K hK => wp_value (exec_build0 rfl) (hK _ _ ⟨Touch.refl _ _, rfl⟩)⟩),
      -- 3
      (fun Q aq ww own hS hBg fr kn => .inl ⟨trivial, fun K hK => wp_value (neq_bytes _ _ _ rfl s 0 kn.1 kn.2.1 Ns N256_0') (hK _ _ ⟨Touch.refl _ _, rfl⟩)⟩),
      -- 4
      (fun Q aq ww own hS hBg fr kn => .inl ⟨trivial, fun K hK => actbytes rfl fr.1 kn.2.1 (obAt kn.1) (fun w2 hg ho => hK _ _ ⟨⟨touch_only ho, obIn hg⟩, trivial⟩)⟩),
      -- 5
      (fun Q aq ww own hS hBg fr kn => .inl ⟨trivial, fun K hK => wp_value (exec_assign _ rfl) (hK _ _ ⟨Touch.refl _ _, kn.1⟩)⟩),
      trivial⟩ ?_
  intro vs own v3 hK3 hs3 kn inj
  have e5 : vs 5 = .bool (!(s == 0)) := kn.1
  have gz3 := obAt kn.2.1
  clear kn inj
  simp only [putAll, Act.put, List.setIfInBounds_toArray, List.set_cons_zero, List.set_cons_succ, e5]
  go_wp2
  exact bodyPost_ret (v := .tuple #[.agg (BA s), .bool (!(s == 0))]) (results_cellt (v := .bool (!(s == 0))) (p := 4) (u := 5) rfl _ _ _ (by rfl) (by rfl) _ gz3 (by rw [BA_size]; exact info32) Tryd.underlying22 rfl) rfl ⟨by rw [HS.out], hK3⟩
def q4v (q : Qd pN) : Nat × Nat × Nat × Nat := (q.X.val, q.Z.val, q.V.val, q.W.val)
theorem q4v_inj {p q : Qd pN} (h : q4v p = q4v q) : p = q := by
  cases p; cases q
  simp only [q4v, Prod.mk.injEq] at h
  simp only [Qd.mk.injEq]
  exact ⟨Fin.ext h.1, Fin.ext h.2.1, Fin.ext h.2.2.1, Fin.ext h.2.2.2⟩
set_option maxRecDepth 100000 in
theorem run99 : q4v (Qd.run kN (ofI (9 % W255)) (keyBits 9) (Qd.start (ofI (9 % W255)))) = q4v (QI 51308241408682788594860346115987951272351162540477535997429117057761542978319 47154794169143379669309714065436086811230587292877743942666655413522937240343 48684302112648453340776453877951235438069666527508432418671490419372981879472 14183203961276989654069734536689318038161764022992892782611580868881078690949) := by decide +kernel
theorem t99 : tN 9 9 = 54815864700279561125610391355931320566748822376190344121911385527384361806914 := by
  have h := lad_end 9 9 _ _ _ _ (q4v_inj run99)
  have hz : (47154794169143379669309714065436086811230587292877743942666655413522937240343 : Int) % P255 ≠ 0 := by decide +kernel
  have hi := inv_mul hz
  have he : (51308241408682788594860346115987951272351162540477535997429117057761542978319 : Int) = 54815864700279561125610391355931320566748822376190344121911385527384361806914 * 47154794169143379669309714065436086811230587292877743942666655413522937240343 % P255 := by decide +kernel
  rw [← h, he, Int.mul_emod, Int.emod_emod_of_dvd _ (Int.dvd_refl _), ← Int.mul_emod, Int.mul_assoc, Int.mul_emod, hi]
  decide +kernel
theorem run_awk (w : World) : (Instr.build 22 #[(0, .int .u8 66), (1, .int .u8 44), (2, .int .u8 142), (3, .int .u8 122), (4, .int .u8 98), (5, .int .u8 39), (6, .int .u8 215), (7, .int .u8 188), (8, .int .u8 161), (9, .int .u8 53), (10, .int .u8 11), (11, .int .u8 62), (12, .int .u8 43), (13, .int .u8 183), (14, .int .u8 39), (15, .int .u8 159), (16, .int .u8 120), (17, .int .u8 151), (18, .int .u8 184), (19, .int .u8 123), (20, .int .u8 182), (21, .int .u8 133), (22, .int .u8 75), (23, .int .u8 120), (24, .int .u8 60), (25, .int .u8 96), (26, .int .u8 232), (27, .int .u8 3), (28, .int .u8 17), (29, .int .u8 174), (30, .int .u8 48), (31, .int .u8 121)]).run Tryd.prog w = .ok (.agg (BA 54815864700279561125610391355931320566748822376190344121911385527384361806914)) w := by kernel_rfl
theorem exec_awk {a : Act} {o : Oper} {w : World} (ho : o.op = .build 22 #[(0, .const (.int .u8 66)), (1, .const (.int .u8 44)), (2, .const (.int .u8 142)), (3, .const (.int .u8 122)), (4, .const (.int .u8 98)), (5, .const (.int .u8 39)), (6, .const (.int .u8 215)), (7, .const (.int .u8 188)), (8, .const (.int .u8 161)), (9, .const (.int .u8 53)), (10, .const (.int .u8 11)), (11, .const (.int .u8 62)), (12, .const (.int .u8 43)), (13, .const (.int .u8 183)), (14, .const (.int .u8 39)), (15, .const (.int .u8 159)), (16, .const (.int .u8 120)), (17, .const (.int .u8 151)), (18, .const (.int .u8 184)), (19, .const (.int .u8 123)), (20, .const (.int .u8 182)), (21, .const (.int .u8 133)), (22, .const (.int .u8 75)), (23, .const (.int .u8 120)), (24, .const (.int .u8 60)), (25, .const (.int .u8 96)), (26, .const (.int .u8 232)), (27, .const (.int .u8 3)), (28, .const (.int .u8 17)), (29, .const (.int .u8 174)), (30, .const (.int .u8 48)), (31, .const (.int .u8 121))]) : (execOp a.eval o).run Tryd.prog w = .ok (.value (.agg (BA 54815864700279561125610391355931320566748822376190344121911385527384361806914))) w := by
  have h := run_awk w
  unfold execOp
  simp only [ho, List.map_toArray, List.map_cons, List.map_nil, Act.eval, Sem.run_bind, h, Result.andThen_ok, Sem.run_pure]
set_option maxHeartbeats 1000000 in
theorem awake2_any (w : World) (hP : PrimeAt w) :
    Calls Tryd.prog 14 #[] w fun r w' => r = .returned (.bool true) ∧ Below w.heap.size w w' := by
  have HP := Hid.mk hP
  clear hP
  go_enter Tryd.func14, Tryd.ntmps14
  go_wp2_with (refine wl_value rfl (exec_build 0 9 rfl 9 (build9 _)) ?_)
  refine (public_any 9 _ HP.out (by unfold N256 W256; omega)).mono ?_
  rintro r v1 ⟨rfl, hb1⟩
  rw [t99]
  go_wp2_with (first | (refine wl_value rfl (eql_same _ _ _ rfl 54815864700279561125610391355931320566748822376190344121911385527384361806914 rfl rfl) ?_) | (refine wl_value rfl (exec_awk rfl) ?_))
  go_ret
  exact ⟨rfl, hb1⟩
end Go.Proofs.YtpcpcgfljffkeaaDoor
/-
  Own text. 32 bytes as an argument are a number's; what the tied condition on the variable 'prime' gives.
-/
namespace Go.Proofs.YtpcpcgfljffkeaaDoor
open Go.ChangeShapes Go.WideShapes Go.ChangeAt Go.WideMaps Go.WideElems Go.RowKit Go.Proofs
/-- A list of digits to the base 256, the lowest first, as a number. -/
def digits : List Int → Int
  | [] => 0
  | x :: l => x + 256 * digits l
theorem digits_spec : ∀ (l : List Int), (∀ x ∈ l, Byte x) → 0 ≤ digits l ∧ digits l < 256 ^ l.length ∧ ∀ i, (h : i < l.length) → byt (digits l) i = l[i]
  | [], _ => ⟨by simp [digits], by simp [digits], fun i h => by simp at h⟩
  | x :: l, h => by
    have hx := h x (by simp)
    obtain ⟨h0, h1, h2⟩ := digits_spec l (fun y hy => h y (by simp [hy]))
    unfold Byte at hx
    refine ⟨by simp only [digits]; omega, by simp only [digits, List.length_cons, Int.pow_succ]; omega, fun i hi => ?_⟩
    cases i with
    | zero => simp only [digits, byt, Int.pow_zero, Int.ediv_one, List.getElem_cons_zero]; omega
    | succ i =>
      simp only [List.length_cons] at hi
      have := h2 i (by omega)
      simp only [List.getElem_cons_succ]
      rw [← this]
      simp only [digits, byt]
      rw [Int.pow_succ, Int.mul_comm (256 ^ i), ← Int.ediv_ediv_of_nonneg (by decide)]
      congr 2
      omega
theorem BA_of_bytes (cs : Array Value) (f : Nat → Int) (hs : cs.size = 32) (h : ∀ i, i < 32 → cs[i]? = some (.int .u8 (f i)) ∧ Byte (f i)) : ∃ n, N256 n ∧ cs = BA n := by
  obtain ⟨h0, h1, h2⟩ := digits_spec ((List.range 32).map f) (fun x hx => by
    obtain ⟨i, hi, rfl⟩ := List.mem_map.1 hx
    exact (h i (List.mem_range.1 hi)).2)
  refine ⟨digits ((List.range 32).map f), ⟨h0, by unfold W256; simpa using h1⟩, ?_⟩
  apply Array.ext_getElem?
  intro i
  by_cases hi : i < 32
  · rw [(h i hi).1, BA_get _ _ hi, h2 i (by simpa using hi)]
    simp
  · rw [Array.getElem?_eq_none (by omega), Array.getElem?_eq_none (by rw [BA_size]; omega)]
theorem cells24 : Tryd.prog.cellsOf 22 = 32 := by kernel_rfl
theorem bytes_wf {n : Int} (h : (Lit.int .u8 n).wf = true) : Byte n := by
  have := bounds_u8 h
  unfold Byte; omega
/-- An argument of 32 bytes is a number's. -/
theorem open_bytes {H : Type} {enc : TypeId × Value → H} {W : World} {base : Nat} {sp : Nat → Bool} {v : Value} {d : DataW H} {p : List MemPlace} (hv : Value.okWide Tryd.prog W .any base 22 v)
    (h : DataW.Trod enc Tryd.prog W 0 sp true 22 v d p) : ∃ n, N256 n ∧ v = .agg (BA n) ∧ p = [] := by
  obtain ⟨cs, rfl, hsz, _⟩ : ∃ cs, v = .agg cs ∧ cs.size = Tryd.prog.cellsOf 22 ∧ Row.okWide Tryd.prog W .any base 22 cs := by
    simpa [Value.okWide, Tryd.underlying22] using hv
  rw [cells24] at hsz
  obtain ⟨fuel, hf⟩ := h
  obtain ⟨xs, m, _, hx, _, hl, hel⟩ := DataW.trod_array Tryd.underlying22 hf
  simp only [Prod.mk.injEq] at hx
  have key : ∀ i, i < 32 → ∃ k : Int, cs[i]? = some (.int .u8 k) ∧ Byte k ∧ ∃ dd, xs[i]? = some (dd, []) := fun i hi => by
    have hi' := hel i hi
    rw [cells5] at hi'
    have hxs : i < xs.length := by omega
    rw [List.getElem?_eq_getElem hxs] at hi'
    obtain ⟨k, e1, e2, wk⟩ := DataW.trod_int Tryd.underlying5 hi'
    have hci : i < cs.size := by omega
    have e3 : (List.take 1 (List.drop (i * 1) (Value.agg cs).cells.toList)) = [cs[i]] := by
      rw [Nat.mul_one]
      show List.take 1 (List.drop i cs.toList) = _
      rw [List.drop_eq_getElem_cons (by simpa using hci)]
      simp
    rw [e3] at e1
    simp only [List.cons.injEq, and_true] at e1
    refine ⟨k, by rw [Array.getElem?_eq_getElem hci, e1], bytes_wf wk, ⟨_, by rw [List.getElem?_eq_getElem hxs, e2]⟩⟩
  obtain ⟨n, hn, rfl⟩ := BA_of_bytes cs (fun i => match cs[i]? with | some (.int .u8 k) => k | _ => 0) hsz (fun i hi => by
    obtain ⟨k, e, hk, _⟩ := key i hi
    simp only [e]
    exact ⟨trivial, hk⟩)
  refine ⟨n, hn, rfl, ?_⟩
  rw [hx.2]
  apply List.flatMap_eq_nil_iff.2
  intro x hxm
  obtain ⟨i, hi, rfl⟩ := List.getElem_of_mem hxm
  obtain ⟨_, _, _, dd, e⟩ := key i (by omega)
  rw [List.getElem?_eq_getElem hi] at e
  rw [Option.some.inj e]
theorem own : ownKnob Tryd.prog.godebug = none := by kernel_rfl
theorem laidOut : laidOutB Tryd.prog = true := by kernel_rfl
def laidP : List (String × DataW Unit) := Rows.curveTimesRow.laid
/-- The variable's name, as the row lists it. -/
def primeName : String := (laidP.map (·.1)).headD "none"
theorem gPrime : Tryd.prog.globalNamed primeName = some 0 := by kernel_rfl
theorem tPrime : (Tryd.prog.globals[0]?).map (·.type) = some 43 := by kernel_rfl
theorem cells36 : Tryd.prog.cellsOf 41 = 1 := by kernel_rfl
theorem door_met (os : Os) (args : Array Value) : laidMetH Tryd.prog laidP ((World.doorLaid Tryd.prog 400 os).forCall (fun _ _ => 0) ⟨#[], args, []⟩).memory :=
  laidMetH_of_parts3 (fuel := 8) (laidMet_of_run' 8 (by kernel_rfl) (by kernel_rfl)) (by kernel_rfl) (by kernel_rfl)
/-- What the condition on 'prime' gives the walks. -/
theorem prime_of_laid {W : World} (h : laidMetH Tryd.prog laidP W) : PrimeAt W := by
  rw [MakeChecks.laidMetH_plain _ _ _ (by kernel_rfl)] at h
  obtain ⟨ps, ⟨g0, t0, cs0, f0, p0, q0, hg0, ht0, hv0, hd0, _, _⟩, _⟩ := h
  obtain rfl := Option.some.inj (gPrime.symm.trans hg0)
  obtain rfl := Option.some.inj (tPrime.symm.trans ht0)
  obtain ⟨xs, m1, rfl, hx1, hlen, hn4, hel⟩ := DataW.trod_array Tryd.underlying43 hd0
  simp only [Prod.mk.injEq, Rows.laid_adit_field_prime, DataW.agg.injEq] at hx1
  have key : ∀ i, i < 4 → ∀ k : Int, (xs.map (·.1))[i]? = some (.lit (.int .u64 k)) → W.cell? ⟨0, i, none⟩ = some (.int .u64 k) := fun i hi k hk => by
    have h0 := hel i hi
    rw [cells36, Nat.mul_one] at h0
    have hxi : i < xs.length := by omega
    rw [List.getElem?_eq_getElem hxi] at h0
    obtain ⟨k', e1, e2, _⟩ := DataW.trod_int Tryd.underlying41 h0
    have hk2 : k' = k := by
      rw [List.getElem?_map, List.getElem?_eq_getElem hxi, e2] at hk
      simpa using hk
    subst hk2
    have hc := World.var?_cell hg0 hv0 i
    rw [hc]
    have : cs0.toList[i]? = some (.int .u64 k') := by
      have h2 := congrArg (fun l => l[0]?) e1
      simpa [List.getElem?_take, List.getElem?_drop] using h2
    simpa using this
  rw [← hx1.1] at key
  exact ⟨key 0 (by omega) _ rfl, key 1 (by omega) _ rfl, key 2 (by omega) _ rfl, key 3 (by omega) _ rfl⟩
end Go.Proofs.YtpcpcgfljffkeaaDoor
/-
  Own text. Small steps that the laws of layer 2 want.
-/
namespace Go.Proofs.YtpcpcgfljffkeaaDoor
open Go.RowKit Go.Proofs
theorem stepc0 {f : FuncId} (hc : ∀ args w, (callFunc f args).run Tryd.prog w = .ok (.enter f args) w) {ts : Array TypeId} {o : Oper} {a : Act} {w : World} {K : Act → World → Prop} {Q : Exit → Act → World → Prop}
    (ho : o.op = .call { callee := .value (.func f), args := #[], argTypes := ts }) {v : Value} (hC : Calls Tryd.prog f #[] w fun r w' => r = .returned v ∧ Below w.heap.size w w')
    (h : ∀ w', Below w.heap.size w w' → K (a.put o.dst v) w') : o.wp Tryd.prog a w K Q := by
  refine wp_enter (exec_call hc #[] ts ho) ?_
  simp only [List.map_toArray, List.map_nil]
  exact hC.mono (fun e w' ⟨he, hb⟩ => ⟨v, he, h w' hb⟩)
theorem exec_ext0 {a : Act} {o : Oper} {w : World} {x : Operand} (ho : o.op = .extract x 0) {u v : Value} (hx : a.eval x = .tuple #[u, v]) : (execOp a.eval o).run Tryd.prog w = .ok (.value u) w := by
  unfold execOp; simp only [ho, hx]; simp [go_sem]
theorem exec_ext1 {a : Act} {o : Oper} {w : World} {x : Operand} (ho : o.op = .extract x 1) {u v : Value} (hx : a.eval x = .tuple #[u, v]) : (execOp a.eval o).run Tryd.prog w = .ok (.value v) w := by
  unfold execOp; simp only [ho, hx]; simp [go_sem]
theorem enterAwake2 (args : Array Value) (w : World) : (callFunc 14 args).run Tryd.prog w = .ok (.enter 14 args) w := by kernel_rfl
theorem enterPublic (args : Array Value) (w : World) : (callFunc 12 args).run Tryd.prog w = .ok (.enter 12 args) w := by kernel_rfl
theorem enterShared (args : Array Value) (w : World) : (callFunc 7 args).run Tryd.prog w = .ok (.enter 7 args) w := by kernel_rfl
theorem enterClamp (args : Array Value) (w : World) : (callFunc 10 args).run Tryd.prog w = .ok (.enter 10 args) w := by kernel_rfl
theorem sharedp_any (a b : Int) (w : World) (hP : PrimeAt w) (ha : N256 a) :
    Calls Tryd.prog 7 #[.agg (BA a), .agg (BA (tN b 9))] w fun e w' => e = .returned (.tuple #[.agg (BA (tN a (tN b 9))), .bool true]) ∧ Below w.heap.size w w' := by
  refine (shared_any a (tN b 9) w hP ha).mono ?_
  rintro e w' ⟨rfl, hb⟩
  have h := tN_meets a b
  exact ⟨by simp [h], hb⟩
end Go.Proofs.YtpcpcgfljffkeaaDoor
