/-
  Own text. Package noise: numbers in four bytes, numbers and keys within a text, bytes the highest first.
-/
import Derived.Test.YthghcjepdhkfdaaGreatDoorJM1
import Derived.Test.YthghcjepdhkfdaaGreatDoorJM2
import Derived.Test.YthghcjepdhkfdaaGreatDoorJM6
import Derived.Test.YthghcjepdhkfdaaGreatDoorJM7
import Derived.Test.YthghcjepdhkfdaaGreatDoorJM4
namespace Go.Proofs.YthghcjepdhkfdaaGreatDoor
open Go.RowKit Go.Proofs
set_option maxRecDepth 100000
theorem shr4 (n : Int) (i : Nat) (hi : i < 4) (w : World) : (binOp .shr 23 (.int .u32 n) (.int .i64 (8 * (i : Int)))).run Tryz.prog w = .ok (.int .u32 (n / 256 ^ i)) w := by
 match i, hi with
 | 0, _ => simp [go_sem]
 | 1, _ => simp [go_sem]
 | 2, _ => simp [go_sem]
 | 3, _ => simp [go_sem]
theorem exec_shr4 {a : Act} {o : Oper} {w : World} {x y : Operand} (ho : o.op = .binOp .shr 23 x y 3) {n : Int} {i : Nat} (hx : a.eval x = .int .u32 n) (hy : a.eval y = .int .i64 (8 * (i : Int))) (hi : i < 4) : (execOp a.eval o).run Tryz.prog w = .ok (.value (.int .u32 (n / 256 ^ i))) w := exec_bin2 ho hx hy rfl (shr4 n i hi w)
set_option maxHeartbeats 4000000 in
theorem lowest4_run (n : Int) (w : World) :
  Calls Tryz.prog 122 #[.int .u32 n] w fun e w' => e = .returned (.string (mkS 4 (digN n))) ∧ Below w.heap.size w w' := by
 have g1 : ArrAt (w.alloc (.cells (WA .u8 4 fun _ => 0) 179)) w.heap.size .u8 179 4 (fun _ => 0) := heap_alloc_new w _
 have hB : Below w.heap.size w (w.alloc (.cells (WA .u8 4 fun _ => 0) 179)) := (Below.refl _ w).alloc (by simp) _
 go_enter Tryz.func122, Tryz.ntmps122
 go_wp2_with fail
 go_loopg [5] 4 (fun gm iv v => ∃ i : Nat, Hid (gm + i = 4) ∧ iv = .int .i64 (i : Int) ∧ ArrAt v w.heap.size .u8 179 4 (fun j => if j < i then digN n j else 0) ∧ Below w.heap.size w v)
 case atStart => exact ⟨0, Hid.mk rfl, rfl, g1.congr (fun j _ => by rw [if_neg (by omega)]), hB⟩
 case round =>
  clear g1 hB
  obtain ⟨i, HI, rfl, g1, hB⟩ := hrel
  have hi8 : i ≤ 4 := by have := HI.out; omega
  by_cases hil : i < 4
  ·have c0 := g1.cell i hil
   have f0 := g1.free i
   have g2 := Hid.mk ((g1.set i (n / 256 ^ i % 256) hil).congr (s' := fun j => if j < i + 1 then digN n j else 0) (fun j _ => by
    unfold upd
    by_cases e : j = i
    ·subst e; rw [if_pos rfl, if_pos (by omega)]; rfl
    ·rw [if_neg e]
     show (if j < i then digN n j else 0) = _
     by_cases h : j < i
     ·rw [if_pos h, if_pos (by omega)]
     ·rw [if_neg h, if_neg (by omega)]))
   go_wp2_with (refine wl_value rfl (exec_shr4 rfl (by rfl) (by rfl) hil) ?_)
   generalize n / 256 ^ i = q at *
   go_wp2_with fail
   go_roundg (4 - (i + 1))
   case rel => exact ⟨i + 1, Hid.mk (by omega), by go_num, g2.out, Below.setCell (p := ⟨w.heap.size, i, none⟩) hB (by simp) _⟩
   case measure => have := HI.out; omega
  ·have hi2 : i = 4 := by omega
   subst hi2
   replace g1 := g1.congr (s' := digN n) (fun j hj => by rw [if_pos hj])
   have hcv := str_back 4 w.heap.size 4 _ 4 (digN n) g1.row (fun j _ => digN_b n j) rfl
   go_wp2_with fail
   go_ret
   exact ⟨rfl, hB⟩
def numA (m : ByteArray) (p : Nat) : Nat → Int
 | 0 => 0
 | i + 1 => numA m p i + txt m (p + i) * 256 ^ i
theorem numA_b (m : ByteArray) (p : Nat) : ∀ i, 0 ≤ numA m p i ∧ numA m p i < 256 ^ i
 | 0 => by unfold numA; omega
 | i + 1 => by
  have ih := numA_b m p i
  have h := txt_b m (p + i)
  have hp : (0 : Int) < 256 ^ i := Int.pow_pos (by omega)
  have h1 : 0 ≤ txt m (p + i) * 256 ^ i := Int.mul_nonneg h.1 (by omega)
  have h2 : txt m (p + i) * 256 ^ i ≤ 255 * 256 ^ i := Int.mul_le_mul_of_nonneg_right (by omega) (by omega)
  unfold numA
  rw [Int.pow_succ]
  omega
theorem shl4 (x : Int) (i : Nat) (hx : 0 ≤ x ∧ x < 256) (hi : i < 4) (w : World) : (binOp .shl 23 (.int .u32 x) (.int .i64 (8 * (i : Int)))).run Tryz.prog w = .ok (.int .u32 (x * 256 ^ i)) w := by
 match i, hi with
 | 0, _ => simp [go_sem, IntKind.wrap_u32]; omega
 | 1, _ => simp [go_sem, IntKind.wrap_u32]; omega
 | 2, _ => simp [go_sem, IntKind.wrap_u32]; omega
 | 3, _ => simp [go_sem, IntKind.wrap_u32]; omega
theorem exec_shl4 {a : Act} {o : Oper} {w : World} {x y : Operand} (ho : o.op = .binOp .shl 23 x y 3) {n : Int} {i : Nat} (hx : a.eval x = .int .u32 n) (hy : a.eval y = .int .i64 (8 * (i : Int))) (hn : 0 ≤ n ∧ n < 256) (hi : i < 4) : (execOp a.eval o).run Tryz.prog w = .ok (.value (.int .u32 (n * 256 ^ i))) w := exec_bin2 ho hx hy rfl (shl4 n i hn hi w)
theorem or4n (a x : Int) (i : Nat) (ha : 0 ≤ a ∧ a < 256 ^ i) (hx : 0 ≤ x ∧ x < 256) (hi : i < 4) : bits .or .u32 a (x * 256 ^ i) = a + x * 256 ^ i := by
 match i, hi with
 | 0, _ => exact or_add a x 0 (256 ^ 0) rfl ha.1 (by omega) (by omega) hx.1 (by omega)
 | 1, _ => exact or_add a x 8 (256 ^ 1) rfl ha.1 (by omega) (by omega) hx.1 (by omega)
 | 2, _ => exact or_add a x 16 (256 ^ 2) rfl ha.1 (by omega) (by omega) hx.1 (by omega)
 | 3, _ => exact or_add a x 24 (256 ^ 3) rfl ha.1 (by omega) (by omega) hx.1 (by omega)
theorem exec_or4 {a : Act} {o : Oper} {w : World} {x y : Operand} (ho : o.op = .binOp .or 23 x y 23) {m n : Int} {i : Nat} (hx : a.eval x = .int .u32 m) (hy : a.eval y = .int .u32 (n * 256 ^ i)) (hm : 0 ≤ m ∧ m < 256 ^ i) (hn : 0 ≤ n ∧ n < 256) (hi : i < 4) : (execOp a.eval o).run Tryz.prog w = .ok (.value (.int .u32 (m + n * 256 ^ i))) w := by
 have h := or4n m n i hm hn hi
 exact exec_bin2 ho hx hy rfl (by rw [← h]; simp [go_sem])
set_option maxHeartbeats 4000000 in
theorem numberAt_run (m : ByteArray) (p : Nat) (w : World) (hp : p + 4 ≤ m.size) (hq : p ≤ 1000) :
  Calls Tryz.prog 112 #[.string m, .int .i64 (p : Int)] w fun e w' => e = .returned (.int .u32 (numA m p 4)) ∧ w' = w := by
 go_enter Tryz.func112, Tryz.ntmps112
 go_wp2_with fail
 go_loopg [5, 7] 4 (fun gm av iv v => ∃ i : Nat, Hid (gm + i = 4) ∧ iv = .int .i64 (i : Int) ∧ av = .int .u32 (numA m p i) ∧ v = w)
 case atStart => exact ⟨0, Hid.mk rfl, rfl, rfl, rfl⟩
 case round =>
  obtain ⟨i, HI, rfl, rfl, rfl⟩ := hrel
  have hi8 : i ≤ 4 := by have := HI.out; omega
  by_cases hil : i < 4
  ·have hA := numA_b m p i
   have hT := txt_b m (p + i)
   have HN : Hid (numA m p i + txt m (p + i) * 256 ^ i = numA m p (i + 1)) := Hid.mk rfl
   have HX : Hid (p + i < m.size) := Hid.mk (by omega)
   go_wp2_with (first | (refine wl_value rfl (exec_ixs (j := p + i) rfl (by rfl) (by show Value.int .i64 _ = _; congr 1) HX.out) ?_) | (refine wl_value rfl (exec_shl4 (i := i) rfl (by rfl) (by rfl) hT hil) ?_) | (refine wl_value rfl (exec_or4 rfl (by rfl) (by rfl) hA hT hil) ?_))
   rw [HN.out]
   go_roundg (4 - (i + 1))
   case rel => exact ⟨i + 1, Hid.mk (by omega), by go_num, rfl, rfl⟩
   case measure => have := HI.out; omega
  ·have hi2 : i = 4 := by omega
   subst hi2
   go_wp2_with fail
   go_ret
   exact ⟨rfl, rfl⟩
theorem wl_bytes {ops : Array Oper} {rest : List Oper} {d : Option Tmp} {x : Operand} {ty : TypeId} {ps : String} {af : Array Edge} {a : Act} {w : World} {Q : Exit → Act → World → Prop} {s : ByteArray} {n : Nat} (hx : a.eval x = .string s) (hn : s.size = n)
  (h : ∀ w' cp, RowAt w' w.heap.size .u8 5 n (txt s) → Below w.heap.size w w' → wpList Tryz.prog ops Q rest (a.put d (.slice (some ⟨w.heap.size, 0, none⟩) n cp)) w') :
  wpList Tryz.prog ops Q ({ dst := d, op := .convert 9 81 x, type := ty, pos := ps, after := af, guard := none } :: rest) a w := by
 subst hn
 obtain ⟨cp, v, hr, hR, hb⟩ := conv_str s w
 refine wl_act rfl ?_
 unfold Oper.wp execOp
 simp only [hx, Sem.run_bind, hr, Result.andThen_ok, Sem.run_pure, Oper.upon]
 exact h v cp hR hb
theorem act_bytes {o : Oper} {a : Act} {w : World} {K : Act → World → Prop} {Q : Exit → Act → World → Prop} {x : Operand} (ho : o.op = .convert 9 81 x) {s : ByteArray} {n : Nat} (hx : a.eval x = .string s) (hn : s.size = n)
  (h : ∀ w' cp, RowAt w' w.heap.size .u8 5 n (txt s) → Below w.heap.size w w' → K (a.put o.dst (.slice (some ⟨w.heap.size, 0, none⟩) n cp)) w') : o.wp Tryz.prog a w K Q := by
 subst hn
 obtain ⟨cp, v, hr, hR, hb⟩ := conv_str s w
 unfold Oper.wp execOp
 simp only [ho, hx, Sem.run_bind, hr, Result.andThen_ok, Sem.run_pure, Oper.upon]
 exact h v cp hR hb
theorem exec_toa {a : Act} {o : Oper} {w : World} {x : Operand} {t : TypeId} (ho : o.op = .sliceToArrayPointer t x) {v r : Value} (hx : a.eval x = v) (hr : (Instr.arrayAt t v).run Tryz.prog w = .ok r w) : (execOp a.eval o).run Tryz.prog w = .ok (.value r) w := by
 unfold execOp
 simp [ho, hx, hr]
theorem toa32 (b cap : Nat) (w : World) : (Instr.arrayAt 22 (.slice (some ⟨b, 0, none⟩) 32 cap)).run Tryz.prog w = .ok (.pointer (some ⟨b, 0, none⟩)) w := by simp [go_sem, Instr.arrayAt]
theorem toa12 (b cap : Nat) (w : World) : (Instr.arrayAt 26 (.slice (some ⟨b, 0, none⟩) 12 cap)).run Tryz.prog w = .ok (.pointer (some ⟨b, 0, none⟩)) w := by simp [go_sem, Instr.arrayAt]
theorem row_range {w : World} {b n : Nat} {t : TypeId} {s : Nat → Int} (h : RowAt w b .u8 t n s) : w.rangeAt b 0 (nums .u8 n s) := fun j v hv => by
 obtain ⟨hj, rfl⟩ := nums_get hv
 rw [Nat.zero_add]
 exact h.cell j hj
theorem exec_slB {a : Act} {o : Oper} {w : World} {x y z : Operand} {t : TypeId} (ho : o.op = .slice t x (some y) (some z) none) {v u r s : Value} (hx : a.eval x = v) (hy : a.eval y = u) (hz : a.eval z = r) (hr : (Instr.sliceAt t v (some u) (some r) none).run Tryz.prog w = .ok s w) : (execOp a.eval o).run Tryz.prog w = .ok (.value s) w := by
 unfold execOp
 simp only [ho, hx, hy, hz, Option.map, Sem.run_bind, hr, Result.andThen_ok, Sem.run_pure]
theorem strB (s : ByteArray) (l n : Nat) (w : World) (h1 : l ≤ n) (h : n ≤ s.size) : (Instr.sliceAt 9 (.string s) (some (.int .i64 (l : Int))) (some (.int .i64 (n : Int))) none).run Tryz.prog w = .ok (.string (s.extract l n)) w := by
 have h2 : (l : Int) ≤ (n : Int) := by omega
 have h3 : (n : Int) ≤ (s.size : Int) := by omega
 simp [go_sem, h2, h3]
set_option maxHeartbeats 4000000 in
theorem keyAt_run (m : ByteArray) (p : Nat) (w : World) (hp : p + 32 ≤ m.size) (hq : p ≤ 1000) :
  Calls Tryz.prog 88 #[.string m, .int .i64 (p : Int)] w fun e w' => e = .returned (.agg (WA .u8 32 (txt (m.extract p (p + 32))))) ∧ Below w.heap.size w w' := by
 have g0 : ArrAt (w.alloc (.cells (WA .u8 32 fun _ => 0) 22)) w.heap.size .u8 22 32 (fun _ => 0) := heap_alloc_new w _
 have hB : Below w.heap.size w (w.alloc (.cells (WA .u8 32 fun _ => 0) 22)) := (Below.refl _ w).alloc (by simp) _
 have HSL : Hid (∀ u : World, (Instr.sliceAt 9 (.string m) (some (.int .i64 (p : Int))) (some (.int .i64 ((p : Int) + 32))) none).run Tryz.prog u = .ok (.string (m.extract p (p + 32))) u) := Hid.mk (fun u => strB m p (p + 32) u (by omega) hp)
 have HE : Hid ((m.extract p (p + 32)).size = 32) := Hid.mk (by rw [ByteArray.size_extract]; omega)
 generalize m.extract p (p + 32) = e at *
 clear hp
 go_enter Tryz.func88, Tryz.ntmps88
 go_wp2_with (first | (refine wl_value rfl (exec_slB (v := .string m) (u := .int .i64 (p : Int)) (r := .int .i64 ((p : Int) + 32)) rfl (by rfl) (by rfl) (by rfl) (HSL.out _)) ?_) | (refine wl_bytes (by rfl) HE.out ?_; intro v1 cp r1 hb1; refine Hid.out ?_))
 have e1 : ∀ o, (w.alloc o).heap.size = w.heap.size + 1 := fun o => by simp
 rw [e1] at r1
 replace g0 := g0.kept hb1
 replace hB := hB.trans (hb1.mono hB.size)
 have hr1 := row_range r1
 clear hb1 r1
 refine Hid.mk ?_
 go_wp2_with (first | (refine wl_value rfl (exec_toa rfl (by rfl) (toa32 _ _ _)) ?_) | (refine wl_value rfl (exec_ldmid rfl isArr32 (by rfl) hr1) ?_) | (refine st_arr isArr32 g0 (by rfl) (by rfl) ?_; intro v7 g7 o7; refine Hid.out ?_))
 refine Hid.mk ?_
 go_wp2_with fail
 exact bodyPost_ret (res_arr Tryz.results88 isArr32 g7 (by rfl)) rfl ⟨rfl, hB.trans (o7.below (Nat.le_refl _))⟩
end Go.Proofs.YthghcjepdhkfdaaGreatDoor

/-
  Own text. Package noise: a handshake's state, and what is done to it.
-/
namespace Go.Proofs.YthghcjepdhkfdaaGreatDoor
open Go.RowKit Go.Proofs
set_option maxRecDepth 100000
theorem touch_le {T : Nat → Prop} {w w' : World} (h : Below w.heap.size w w') : Touch T w w' := ⟨h.os, h.tape, h.output, h.size, fun k hk _ => h.block k hk⟩
def Env (w : World) : Prop := Tabs w ∧ Fld.PrimeAt w
theorem Env.two {w : World} (h : Env w) : 3 ≤ w.heap.size := h.1.two
theorem Env.blk {w w' : World} (h : Env w) (e : ∀ k, k < 3 → w'.heap[k]? = w.heap[k]?) : Env w' := by
 have h0 := e 0 (by decide)
 exact ⟨h.1.block (e _ (by decide)) (e _ (by decide)), ⟨(World.cell?_of_block (w := w) h0).trans h.2.1, (World.cell?_of_block (w := w) h0).trans h.2.2.1, (World.cell?_of_block (w := w) h0).trans h.2.2.2.1, (World.cell?_of_block (w := w) h0).trans h.2.2.2.2⟩⟩
theorem Env.below {B : Nat} {w w' : World} (h : Env w) (hb : Below B w w') (hB : 3 ≤ B) : Env w' := h.blk (fun k hk => hb.block k (by omega))
theorem Env.kept {w w' : World} (h : Env w) (hb : Below w.heap.size w w') : Env w' := h.below hb h.two
theorem Env.touch {b : Nat} {w w' : World} (h : Env w) (ht : Touch (fun x => x = b) w w') (hb : 3 ≤ b) : Env w' := h.blk (fun k hk => ht.block k (by have := h.two; omega) (by omega))
theorem Env.only {b : Nat} {w w' : World} (h : Env w) (ht : Only b w w') (hb : 3 ≤ b) : Env w' := h.blk (fun k hk => ht.block k (by omega))
def twice (cs : Array Value) (t : TypeId) (s : Nat) (cs' : Array Value) (s2 : Nat) (cs2 : Array Value) : Cont := ⟨isOb cs t, [(s, isOb cs' t), (s2, isOb cs2 t)]⟩
theorem str_cells (b off n : Nat) (w : World) (f : Nat → Int) (hf : Byts n f) (hr : w.rangeAt b off (nums .u8 n f)) {cp : Nat} : (convert 81 9 (.slice (some ⟨b, off, none⟩) n cp)).run Tryz.prog w = .ok (.string (mkS n f)) w := by
 have h := run_convert_bytes_back (P := Tryz.prog) w 81 9 5 ⟨b, off, none⟩ cp (bytesL n f) Tryz.underlying81 Tryz.underlying5 Tryz.underlying9 (fun j hj => by
  rw [bytesL_len] at hj
  rw [Addr.add_lit, hr j _ (nums_at .u8 n f hj)]
  have := hf j hj
  simp [bytesL]
  omega)
 rw [bytesL_len] at h
 exact h
theorem sl32o (b o : Nat) (w : World) : (Instr.sliceAt 22 (.pointer (some ⟨b, o, none⟩)) none none none).run Tryz.prog w = .ok (.slice (some ⟨b, o, none⟩) 32 32) w := by simp [go_sem]
def ktF (H C K : Nat → Int) : Nat → Int := cat 64 (cat 32 H C) K
def KtAt (w : World) (b : Nat) (H C K : Nat → Int) : Prop := ArrAt w b .u8 121 96 (ktF H C K)
section
variable {w w' : World} {b : Nat} {H C K : Nat → Int}
theorem KtAt.lt (h : KtAt w b H C K) : b < w.heap.size := ArrAt.lt h
theorem KtAt.kept (h : KtAt w b H C K) (hb : Below w.heap.size w w') : KtAt w' b H C K := ArrAt.kept h hb
theorem KtAt.block (h : KtAt w b H C K) (e : w'.heap[b]? = w.heap[b]?) : KtAt w' b H C K := ArrAt.block h e
theorem KtAt.only {g : Nat} (h : KtAt w b H C K) (o : Only g w w') (hg : b ≠ g) : KtAt w' b H C K := h.block (o.block b hg)
theorem KtAt.h (h : KtAt w b H C K) : w.rangeAt b 0 (nums .u8 32 H) := fun j v hj => by
 obtain ⟨hj2, rfl⟩ := nums_get hj
 rw [Nat.zero_add, ArrAt.cell h j (by omega)]
 unfold ktF cat
 rw [if_pos (by omega), if_pos hj2]
theorem KtAt.c (h : KtAt w b H C K) : w.rangeAt b 32 (nums .u8 32 C) := fun j v hj => by
 obtain ⟨hj2, rfl⟩ := nums_get hj
 rw [ArrAt.cell h (32 + j) (by omega)]
 unfold ktF cat
 rw [if_pos (by omega), if_neg (by omega), Nat.add_sub_cancel_left]
theorem KtAt.k (h : KtAt w b H C K) : w.rangeAt b 64 (nums .u8 32 K) := fun j v hj => by
 obtain ⟨hj2, rfl⟩ := nums_get hj
 rw [ArrAt.cell h (64 + j) (by omega)]
 unfold ktF cat
 rw [if_neg (by omega), Nat.add_sub_cancel_left]
theorem KtAt.part {o m : Nat} {r : Nat → Int} (h : KtAt w b H C K) (hm : o + m ≤ 96) : ArrAt (w.setCells b o (nums .u8 m r)) b .u8 121 96 (over (ktF H C K) o m r) ∧ Only b w (w.setCells b o (nums .u8 m r)) := by
 obtain ⟨C', h1, h2, h3, h4, h5⟩ := setCells_heap (nums .u8 m r) o w _ h (by rw [nums_len, WA_size]; exact hm)
 rw [nums_len] at h3 h4
 rw [WA_size] at h2
 have e : C' = WA .u8 96 (over (ktF H C K) o m r) := WA_ext h2 (fun i hi => by
  unfold over
  by_cases h : o ≤ i ∧ i < o + m
  ·rw [if_pos h]
   have := h3 (i - o) (by omega)
   rw [show o + (i - o) = i by omega] at this
   rw [this, nums_at .u8 m r (by omega)]
  ·rw [if_neg h, h4 i (by omega), WA_get .u8 96 _ i hi])
 exact ⟨by unfold ArrAt; rw [h1, e], h5⟩
theorem KtAt.setH (h : KtAt w b H C K) (X : Nat → Int) : KtAt (w.setCells b 0 (nums .u8 32 X)) b X C K ∧ Only b w (w.setCells b 0 (nums .u8 32 X)) := by
 obtain ⟨h1, h2⟩ := h.part (o := 0) (m := 32) (r := X) (by omega)
 refine ⟨h1.congr (fun i hi => ?_), h2⟩
 unfold over ktF cat
 by_cases e : 0 ≤ i ∧ i < 0 + 32
 ·rw [if_pos e]
  rw [if_pos (by omega), if_pos (by omega), Nat.sub_zero]
 ·rw [if_neg e]
  by_cases e1 : i < 64
  ·rw [if_pos e1, if_pos e1]
   by_cases e2 : i < 32
   ·first | (exfalso; omega) | rw [if_pos e2, if_pos e2]
   ·first | (exfalso; omega) | rw [if_neg e2, if_neg e2]
  ·first | (exfalso; omega) | rw [if_neg e1, if_neg e1] | rfl
theorem KtAt.setC (h : KtAt w b H C K) (X : Nat → Int) : KtAt (w.setCells b 32 (nums .u8 32 X)) b H X K ∧ Only b w (w.setCells b 32 (nums .u8 32 X)) := by
 obtain ⟨h1, h2⟩ := h.part (o := 32) (m := 32) (r := X) (by omega)
 refine ⟨h1.congr (fun i hi => ?_), h2⟩
 unfold over ktF cat
 by_cases e : 32 ≤ i ∧ i < 32 + 32
 ·rw [if_pos e]
  rw [if_pos (by omega), if_neg (by omega)]
 ·rw [if_neg e]
  by_cases e1 : i < 64
  ·rw [if_pos e1, if_pos e1]
   by_cases e2 : i < 32
   ·first | (exfalso; omega) | rw [if_pos e2, if_pos e2]
   ·first | (exfalso; omega) | rw [if_neg e2, if_neg e2]
  ·first | (exfalso; omega) | rw [if_neg e1, if_neg e1] | rfl
theorem KtAt.setK (h : KtAt w b H C K) (X : Nat → Int) : KtAt (w.setCells b 64 (nums .u8 32 X)) b H C X ∧ Only b w (w.setCells b 64 (nums .u8 32 X)) := by
 obtain ⟨h1, h2⟩ := h.part (o := 64) (m := 32) (r := X) (by omega)
 refine ⟨h1.congr (fun i hi => ?_), h2⟩
 unfold over ktF cat
 by_cases e : 64 ≤ i ∧ i < 64 + 32
 ·rw [if_pos e]
  rw [if_neg (by omega)]
 ·rw [if_neg e]
  by_cases e1 : i < 64
  ·rw [if_pos e1, if_pos e1]
  ·first | (exfalso; omega) | rw [if_neg e1, if_neg e1] | rfl
end
theorem st_kth {ops : Array Oper} {rest : List Oper} {d : Option Tmp} {x y : Operand} {t : TypeId} {ps : String} {af : Array Edge} {a : Act} {w : World} {Q : Exit → Act → World → Prop} {b : Nat} {H C K X : Nat → Int}
  (hg : KtAt w b H C K) (hx : a.eval x = .pointer (some ⟨b, 0, none⟩)) (hy : a.eval y = .agg (WA .u8 32 X)) (h : ∀ w2, KtAt w2 b X C K → Only b w w2 → wpList Tryz.prog ops Q rest (a.put d undef) w2) :
  wpList Tryz.prog ops Q ({ dst := d, op := .store 22 x y, type := t, pos := ps, after := af, guard := none } :: rest) a w := by
 obtain ⟨_, _, _, h3⟩ := isArr32
 have h2 := hg.setH X
 exact wpList_store_mid rfl 22 x y rfl b 0 (WA .u8 32 X) hx hy (by rw [WA_size]; exact there_row hg (by rw [WA_size]; omega)) (by rw [WA_size]; exact h3) (WA_one .u8 32 X) (h _ h2.1 h2.2)
theorem st_ktc {ops : Array Oper} {rest : List Oper} {d : Option Tmp} {x y : Operand} {t : TypeId} {ps : String} {af : Array Edge} {a : Act} {w : World} {Q : Exit → Act → World → Prop} {b : Nat} {H C K X : Nat → Int}
  (hg : KtAt w b H C K) (hx : a.eval x = .pointer (some ⟨b, 32, none⟩)) (hy : a.eval y = .agg (WA .u8 32 X)) (h : ∀ w2, KtAt w2 b H X K → Only b w w2 → wpList Tryz.prog ops Q rest (a.put d undef) w2) :
  wpList Tryz.prog ops Q ({ dst := d, op := .store 22 x y, type := t, pos := ps, after := af, guard := none } :: rest) a w := by
 obtain ⟨_, _, _, h3⟩ := isArr32
 have h2 := hg.setC X
 exact wpList_store_mid rfl 22 x y rfl b 32 (WA .u8 32 X) hx hy (by rw [WA_size]; exact there_row hg (by rw [WA_size]; omega)) (by rw [WA_size]; exact h3) (WA_one .u8 32 X) (h _ h2.1 h2.2)
theorem act_ktc {o : Oper} {a : Act} {w : World} {J : Act → World → Prop} {Q : Exit → Act → World → Prop} {x y : Operand} (ho : o.op = .store 22 x y) {b : Nat} {H C K X : Nat → Int}
  (hg : KtAt w b H C K) (hx : a.eval x = .pointer (some ⟨b, 32, none⟩)) (hy : a.eval y = .agg (WA .u8 32 X)) (h : ∀ w2, KtAt w2 b H X K → Only b w w2 → J (a.put o.dst undef) w2) : o.wp Tryz.prog a w J Q := by
 obtain ⟨_, _, _, h3⟩ := isArr32
 have h2 := hg.setC X
 exact wp_store_mid 22 x y ho b 32 (WA .u8 32 X) hx hy (by rw [WA_size]; exact there_row hg (by rw [WA_size]; omega)) (by rw [WA_size]; exact h3) (WA_one .u8 32 X) (h _ h2.1 h2.2)
theorem act_ktk {o : Oper} {a : Act} {w : World} {J : Act → World → Prop} {Q : Exit → Act → World → Prop} {x y : Operand} (ho : o.op = .store 22 x y) {b : Nat} {H C K X : Nat → Int}
  (hg : KtAt w b H C K) (hx : a.eval x = .pointer (some ⟨b, 64, none⟩)) (hy : a.eval y = .agg (WA .u8 32 X)) (h : ∀ w2, KtAt w2 b H C X → Only b w w2 → J (a.put o.dst undef) w2) : o.wp Tryz.prog a w J Q := by
 obtain ⟨_, _, _, h3⟩ := isArr32
 have h2 := hg.setK X
 exact wp_store_mid 22 x y ho b 64 (WA .u8 32 X) hx hy (by rw [WA_size]; exact there_row hg (by rw [WA_size]; omega)) (by rw [WA_size]; exact h3) (WA_one .u8 32 X) (h _ h2.1 h2.2)
theorem run_fk (b k : Nat) (w : World) : k < 3 → (Instr.fieldAt 121 (.pointer (some ⟨b, 0, none⟩)) k).run Tryz.prog w = .ok (.pointer (some ⟨b, [0, 32, 64].getD k 0, none⟩)) w := by
 intro hk
 match k, hk with
 | 0, _ => simp [go_sem]
 | 1, _ => simp [go_sem]
 | 2, _ => simp [go_sem]
theorem exec_fk {a : Act} {o : Oper} {w : World} {x : Operand} {k : Nat} (ho : o.op = .fieldAddr 121 x k) {b : Nat} (hx : a.eval x = .pointer (some ⟨b, 0, none⟩)) (hk : k < 3) : (execOp a.eval o).run Tryz.prog w = .ok (.value (.pointer (some ⟨b, [0, 32, 64].getD k 0, none⟩))) w := by
 have h := run_fk b k w hk
 unfold execOp
 simp only [ho, hx, Sem.run_bind, h, Result.andThen_ok, Sem.run_pure]
set_option maxHeartbeats 1600000 in
theorem keys_run (b n : Nat) (H C K : Nat → Int) (s : ByteArray) (w : World) (hE : Env w) (g : KtAt w b H C K) (hC : Byts 32 C) (hs : s.size ≤ 140737488355328) (h1 : 1 ≤ n) (h8 : n ≤ 8) :
  Calls Tryz.prog 119 #[.pointer (some ⟨b, 0, none⟩), .int .i64 (n : Int), .string s] w fun e w' => ∃ gl cl, e = .returned (.slice (some ⟨gl, 0, none⟩) n cl) ∧ w.heap.size ≤ gl ∧ RowsAt w' gl n 0 (chn C s) ∧ Below w.heap.size w w' := by
 have hr := g.c
 have hCh := fun u hT => Chain_run n C s u hT hC h1 h8 hs
 change ∀ u, Tabs u → Calls Tryz.prog 148 #[.int .i64 (n : Int), .agg (WA .u8 32 C), .string s] u fun e w' => ∃ v B, e = .returned (.tuple #[v, .int .i64 0]) ∧ u.heap.size ≤ B ∧ w'.ownsRow B 22 32 v n (rowsL (chn C s) n) ∧ Below u.heap.size u w' at hCh
 have HT := Hid.mk hE.1
 clear hE
 go_enter Tryz.func119, Tryz.ntmps119
 go_wp2_with (refine wl_value rfl (exec_ldmid rfl isArr32 (by rfl) hr) ?_)
 refine (hCh _ HT.out).mono ?_
 rintro e v1 ⟨vl, Bl, rfl, hBl, hO, hb1⟩
 obtain ⟨gl, cl, rfl, hgl, rL⟩ := own_rows hO (by omega)
 clear hr hO hCh
 go_wp2_with fail
 go_ret
 exact ⟨gl, cl, rfl, by omega, rL, hb1⟩
set_option maxHeartbeats 1600000 in
theorem chainIn_run (b : Nat) (H C K : Nat → Int) (s : ByteArray) (w : World) (hE : Env w) (g : KtAt w b H C K) (hC : Byts 32 C) (hs : s.size ≤ 140737488355328) :
  Calls Tryz.prog 92 #[.pointer (some ⟨b, 0, none⟩), .string s] w fun e w' => e = .returned (.tuple #[]) ∧ KtAt w' b H (chn C s 0) K ∧ Touch (fun x => x = b) w w' := by
 have hbl := g.lt
 go_enter Tryz.func92, Tryz.ntmps92
 go_wp2_with fail
 refine (keys_run b 1 H C K s _ hE g hC hs (by omega) (by omega)).mono ?_
 rintro e v1 ⟨gl, cl, rfl, hgl, rL, hb1⟩
 replace g := g.kept hb1
 have ht := belT b hb1
 have hr0 := rL.range (Nat.le_refl 0) (by omega)
 clear hb1 hE
 go_wp2_with (first | (refine wl_value rfl (exec_idx32 (i := 0) rfl (by rfl) (by rfl) (by omega)) ?_) | (refine wl_value rfl (exec_ldmid rfl isArr32 (by rfl) hr0) ?_) | (refine st_ktc g (by rfl) (by rfl) ?_; intro v3 g3 o3; refine Hid.out ?_))
 refine Hid.mk ?_
 go_wp2_with fail
 exact bodyPost_end (results_none rfl _ _ _) rfl ⟨rfl, g3, ht.trans (touch_only o3)⟩
set_option maxHeartbeats 1600000 in
set_option maxRecDepth 100000 in
theorem keyIn_run (b : Nat) (H C K : Nat → Int) (s : ByteArray) (w : World) (hE : Env w) (g : KtAt w b H C K) (hC : Byts 32 C) (hs : s.size ≤ 140737488355328) :
  Calls Tryz.prog 81 #[.pointer (some ⟨b, 0, none⟩), .string s] w fun e w' => e = .returned (.tuple #[]) ∧ KtAt w' b H (chn C s 0) (chn C s 1) ∧ Touch (fun x => x = b) w w' := by
 have hbl := g.lt
 go_enter Tryz.func81, Tryz.ntmps81
 go_wp2_with fail
 refine (keys_run b 2 H C K s _ hE g hC hs (by omega) (by omega)).mono ?_
 rintro e v0 ⟨gl, cl, rfl, hgl, rL, hb1⟩
 replace g := g.kept hb1
 have ht := belT b hb1
 clear hb1 hE
 obtain ⟨L, hL⟩ : ∃ L, chn C s = L := ⟨_, rfl⟩
 rw [hL] at rL
 have HRL : Hid (∀ u, Touch (fun x => x = b) v0 u → RowsAt u gl 2 0 L) := Hid.mk (fun u hu => rL.touch hu (by omega))
 go_wp2_with fail
 refine wp_region3 (Touch (fun x => x = b) v0) v0.heap.size
   [(b, twice (WA .u8 96 (ktF H C K)) 121 10 (WA .u8 96 (ktF H (L 0) K)) 13 (WA .u8 96 (ktF H (L 0) (L 1))))]
   [kv (.pointer (some ⟨b, 0, none⟩)), kv (.pointer (some ⟨b, 0, none⟩)), kv (.slice (some ⟨gl, 0, none⟩) 2 cl), kv (.pointer (some ⟨gl, 0 * 32, none⟩)), kv (.agg (WA .u8 32 (L 0))), kv (.slice (some ⟨gl, 0, none⟩) 2 cl), kv (.pointer (some ⟨gl, 1 * 32, none⟩)), kv (.agg (WA .u8 32 (L 1))), kv (.pointer (some ⟨b, 0, none⟩)), kv (.pointer (some ⟨b, 32, none⟩)), .val fun _ => True, kv (.pointer (some ⟨b, 0, none⟩)), kv (.pointer (some ⟨b, 64, none⟩)), .val fun _ => True]
   [.none, .none, .none, .none, .none, .none, .none, .none, .none, .none, .base 0 1, .none, .none, .base 0 2]
   [some 8, some 9, some 10, some 11, some 12, some 13, some 14, some 15, some 16, some 17, none, some 18, some 19, none]
   [(0, .pointer (some ⟨b, 0, none⟩)), (4, .slice (some ⟨gl, 0, none⟩) 2 cl)]
   [[], [], [], [.slot 2], [.slot 3], [], [.slot 5], [.slot 6], [.slot 0], [.slot 8], [.slot 9, .slot 4, .base 0 0], [.slot 1], [.slot 11], [.slot 12, .slot 7, .base 0 1]]
   [.base 0 2] [8, 9, 10, 11, 12, 13, 14, 15, 16, 17, 18, 19]
   rfl (by kernel_rfl) ⟨rfl, rfl, trivial⟩ (belT b (Below.refl _ v0).drew) (Nat.le_refl _) ⟨⟨g.lt, obIn g⟩, trivial⟩ ⟨trivial, trivial⟩ touch_G
   ⟨
    (fun Q aq ww own hS hBg fr kn => .inl ⟨trivial, fun K hK => wp_value (exec_move rfl fr.1) (hK _ _ ⟨Touch.refl _ _, rfl⟩)⟩),
    (fun Q aq ww own hS hBg fr kn => .inl ⟨trivial, fun K hK => wp_value (exec_move rfl fr.1) (hK _ _ ⟨Touch.refl _ _, rfl⟩)⟩),
    (fun Q aq ww own hS hBg fr kn => .inl ⟨trivial, fun K hK => wp_value (exec_move rfl fr.2.1) (hK _ _ ⟨Touch.refl _ _, rfl⟩)⟩),
    (fun Q aq ww own hS hBg fr kn => .inl ⟨trivial, fun K hK => wp_value (exec_idx32 (i := 0) rfl kn.1 rfl (by omega)) (hK _ _ ⟨Touch.refl _ _, rfl⟩)⟩),
    (fun Q aq ww own hS hBg fr kn => .inl ⟨trivial, fun K hK => wp_value (exec_ldmid rfl isArr32 kn.1 ((HRL.out ww hS).range (Nat.le_refl 0) (by omega))) (hK _ _ ⟨Touch.refl _ _, rfl⟩)⟩),
    (fun Q aq ww own hS hBg fr kn => .inl ⟨trivial, fun K hK => wp_value (exec_move rfl fr.2.1) (hK _ _ ⟨Touch.refl _ _, rfl⟩)⟩),
    (fun Q aq ww own hS hBg fr kn => .inl ⟨trivial, fun K hK => wp_value (exec_idx32 (i := 1) rfl kn.1 rfl (by omega)) (hK _ _ ⟨Touch.refl _ _, rfl⟩)⟩),
    (fun Q aq ww own hS hBg fr kn => .inl ⟨trivial, fun K hK => wp_value (exec_ldmid rfl isArr32 kn.1 ((HRL.out ww hS).range (Nat.zero_le 1) (by omega))) (hK _ _ ⟨Touch.refl _ _, rfl⟩)⟩),
    (fun Q aq ww own hS hBg fr kn => .inl ⟨trivial, fun K hK => wp_value (exec_nilc rfl kn.1) (hK _ _ ⟨Touch.refl _ _, rfl⟩)⟩),
    (fun Q aq ww own hS hBg fr kn => .inl ⟨trivial, fun K hK => wp_value (exec_fk (k := 1) rfl kn.1 (by decide)) (hK _ _ ⟨Touch.refl _ _, rfl⟩)⟩),
    (fun Q aq ww own hS hBg fr kn => .inl ⟨trivial, fun K hK => act_ktc rfl (obAt kn.2.2.1) kn.1 kn.2.1 (fun w2 hg ho => hK _ _ ⟨⟨touch_only ho, obIn hg⟩, trivial⟩)⟩),
    (fun Q aq ww own hS hBg fr kn => .inl ⟨trivial, fun K hK => wp_value (exec_nilc rfl kn.1) (hK _ _ ⟨Touch.refl _ _, rfl⟩)⟩),
    (fun Q aq ww own hS hBg fr kn => .inl ⟨trivial, fun K hK => wp_value (exec_fk (k := 2) rfl kn.1 (by decide)) (hK _ _ ⟨Touch.refl _ _, rfl⟩)⟩),
    (fun Q aq ww own hS hBg fr kn => .inl ⟨trivial, fun K hK => act_ktk rfl (obAt kn.2.2.1) kn.1 kn.2.1 (fun w2 hg ho => hK _ _ ⟨⟨touch_only ho, obIn hg⟩, trivial⟩)⟩),
    trivial⟩ ?_
 intro vs own v1 hT1 hsz kn inj
 clear inj hsz
 have g1 : KtAt v1 b H (L 0) (L 1) := obAt kn.1
 clear kn HRL
 simp only [putAll, Act.put, List.setIfInBounds_toArray, List.set_cons_zero, List.set_cons_succ]
 go_wp2_with fail
 refine bodyPost_end (results_none rfl _ _ _) rfl ⟨rfl, ?_, ht.trans hT1⟩
 rw [hL]
 exact g1
end Go.Proofs.YthghcjepdhkfdaaGreatDoor

/-
  Own text. Package noise: texts mixed into a state, sealing, opening, secrets.
-/
namespace Go.Proofs.YthghcjepdhkfdaaGreatDoor
open Go.RowKit Go.Proofs
set_option maxRecDepth 100000
theorem enterNonceC (args : Array Value) (w : World) : (callFunc 121 args).run Tryz.prog w = .ok (.enter 121 args) w := by kernel_rfl
theorem enterSealC (args : Array Value) (w : World) : (callFunc 120 args).run Tryz.prog w = .ok (.enter 120 args) w := by kernel_rfl
theorem enterOpenC (args : Array Value) (w : World) : (callFunc 132 args).run Tryz.prog w = .ok (.enter 132 args) w := by kernel_rfl
def mixL (H : Nat → Int) (ts : Nat → ByteArray) : Nat → Nat → Int
 | 0 => H
 | n + 1 => mixH (mixL H ts n) (ts n)
theorem mixL_b {H : Nat → Int} (hH : Byts 32 H) (ts : Nat → ByteArray) : ∀ n, Byts 32 (mixL H ts n)
 | 0 => hH
 | _ + 1 => mixH_b _ _ 32
set_option maxHeartbeats 4000000 in
theorem mixIn_run (b : Nat) (H C K : Nat → Int) (v : Value) (cnt : Nat) (ts : Nat → ByteArray) (w : World) (hE : Env w) (hb3 : 3 ≤ b) (g : KtAt w b H C K) (hH : Byts 32 H)
  (hv : ∀ w', Touch (fun x => x = b) w w' → Strs w' v cnt ts) (hcn : cnt ≤ 1000) (hsz : ∀ i, i < cnt → (ts i).size ≤ 562949953421312) :
  Calls Tryz.prog 117 #[.pointer (some ⟨b, 0, none⟩), v] w fun e w' => e = .returned (.tuple #[]) ∧ KtAt w' b (mixL H ts cnt) C K ∧ Touch (fun x => x = b) w w' := by
 obtain ⟨a, c, rfl, hp⟩ := hv w (Touch.refl _ _)
 have HV := Hid.mk hv
 have HSZ := Hid.mk hsz
 have HE : Hid (∀ u, Touch (fun x => x = b) w u → Env u) := Hid.mk (fun u hu => hE.touch hu hb3)
 clear hv hp hsz hE
 go_enter Tryz.func117, Tryz.ntmps117
 go_wp2_with fail
 go_loopg [8] cnt (fun gm iv v => ∃ i : Nat, Hid (gm + i = cnt) ∧ iv = .int .i64 (i : Int) ∧ KtAt v b (mixL H ts i) C K ∧ Touch (fun x => x = b) w v)
 case atStart => exact ⟨0, Hid.mk rfl, rfl, g, Touch.refl _ _⟩
 case round =>
  clear g
  obtain ⟨i, HI, rfl, g, ht⟩ := hrel
  have hin : i ≤ cnt := by have := HI.out; omega
  by_cases hil : i < cnt
  ·obtain ⟨a', c', e, hp⟩ := HV.out wr ht
   simp only [Value.slice.injEq] at e
   obtain ⟨rfl, _, rfl⟩ := e
   obtain ⟨p, rfl, hc⟩ := hp (by omega)
   have hc1 := hc i hil
   have hE := HE.out wr ht
   clear hc hp
   have hHi := mixL_b hH ts i
   have HS : Hid (mixH (mixL H ts i) (ts i) = mixL H ts (i + 1)) := Hid.mk rfl
   have hss := HSZ.out i hil
   generalize mixL H ts i = Hi at *
   generalize ts i = s at *
   have hcv := str_cells b 0 32 wr Hi hHi g.h (cp := 32)
   have hd : decide ((i : Int) < (cnt : Int)) = true := by simp; omega
   go_wp2_with (refine wl_bs2 (s := mkS 32 Hi) (t := s) (by rfl) (by rfl) ?_; intro v5 hS5 hb5 hz5; refine Hid.out ?_)
   clear hcv hc1 hz5
   replace g := g.kept hb5
   replace hE := hE.kept hb5
   replace ht := ht.trans (belT b hb5)
   clear hb5
   refine Hid.mk ?_
   go_wp2_with fail
   refine (hSum_run _ 2 (two2 (mkS 32 Hi) s) _ hE.1 hS5 (by omega) (by rw [join2, ByteArray.size_append, mkS_size]; omega)).mono ?_
   rintro x v6 ⟨rfl, hb6⟩
   rw [join2]
   change KtAt v5 b Hi C K at g
   have HM : Hid (sumF (mkS 32 Hi ++ s) = mixL H ts (i + 1)) := Hid.mk HS.out
   replace g := g.kept hb6
   replace ht := ht.trans (belT b hb6)
   clear hb6 hS5 hE
   go_wp2_with (refine st_kth g (by rfl) (by rfl) ?_; intro v7 g7 o7; refine Hid.out ?_)
   rw [HM.out] at g7
   refine Hid.mk ?_
   go_wp2_with fail
   go_roundg (cnt - (i + 1))
   case rel => exact ⟨i + 1, Hid.mk (by omega), by go_num, g7, ht.trans (touch_only o7)⟩
   case measure => have := HI.out; omega
  ·have hi2 : i = cnt := by omega
   subst hi2
   have hd : decide ((i : Int) < (i : Int)) = false := by simp
   go_wp2_with fail
   exact bodyPost_end (results_none rfl _ _ _) rfl ⟨rfl, g, ht⟩
set_option maxHeartbeats 1600000 in
theorem ephemeralIn_run (b : Nat) (H C K e : Nat → Int) (w : World) (hE : Env w) (hb3 : 3 ≤ b) (g : KtAt w b H C K) (hH : Byts 32 H) (hC : Byts 32 C) (he : Byts 32 e) :
  Calls Tryz.prog 79 #[.pointer (some ⟨b, 0, none⟩), .agg (WA .u8 32 e)] w fun x w' => x = .returned (.tuple #[]) ∧ KtAt w' b (mixH H (mkS 32 e)) (chn C (mkS 32 e) 0) K ∧ Touch (fun x => x = b) w w' := by
 have hbl := g.lt
 have hB : Below w.heap.size w (w.alloc (.cells (WA .u8 32 e) 22)) := (Below.refl _ w).alloc (Nat.le_refl _) _
 have g0 : ArrAt (w.alloc (.cells (WA .u8 32 e) 22)) w.heap.size .u8 22 32 e := heap_alloc_new w _
 have hcv := str_back 32 w.heap.size 32 _ 32 e g0.row he rfl
 have HE := Hid.mk (hE.kept hB)
 have HG := Hid.mk (g.kept hB)
 have ht := belT b hB
 clear hE g hB
 go_enter Tryz.func79, Tryz.ntmps79
 go_wp2_with fail
 refine (chainIn_run b H C K (mkS 32 e) _ HE.out HG.out hC (by rw [mkS_size]; omega)).mono ?_
 rintro x v1 ⟨rfl, g, t1⟩
 have hE := HE.out.touch t1 hb3
 replace g0 := g0.touch t1 (by omega)
 replace ht := ht.trans t1
 clear t1 hcv HE HG
 have hcv := str_back 32 w.heap.size 32 _ 32 e g0.row he rfl
 have hes : (mkS 32 e).size ≤ 562949953421312 := by rw [mkS_size]; omega
 obtain ⟨et, het⟩ : ∃ et, mkS 32 e = et := ⟨_, rfl⟩
 rw [het] at hes hcv g
 obtain ⟨C1, hC1⟩ : ∃ C1, chn C et 0 = C1 := ⟨_, rfl⟩
 rw [hC1] at g
 go_wp2_with (refine wl_bs1 (s := et) (by rfl) ?_; intro v5 hS5 hb5 hz5; refine Hid.out ?_)
 have hst := g.lt
 replace g := g.kept hb5
 replace hE := hE.kept hb5
 replace ht := ht.trans (belT b hb5)
 clear hz5
 refine Hid.mk ?_
 go_wp2_with fail
 refine (mixIn_run b H C1 K _ 1 (one1 et) _ hE hb3 g hH (fun u hu => hS5.touch (fun p n c hp => by cases hp; exact Nat.ne_of_gt hst) hu) (by omega) (fun i _ => hes)).mono ?_
 rintro x v6 ⟨rfl, g6, t6⟩
 go_wp2_with fail
 refine bodyPost_end (results_none rfl _ _ _) rfl ⟨rfl, ?_, ht.trans t6⟩
 rw [het, hC1]
 exact g6
set_option maxHeartbeats 1600000 in
set_option maxRecDepth 100000 in
theorem seal_run (b : Nat) (H C K : Nat → Int) (s : ByteArray) (w : World) (hE : Env w) (hb3 : 3 ≤ b) (g : KtAt w b H C K) (hH : Byts 32 H) (hK : Byts 32 K) (hs : s.size ≤ 140737488355328) :
  Calls Tryz.prog 82 #[.pointer (some ⟨b, 0, none⟩), .string s] w fun e w' => e = .returned (.string (boxT K non0 s (mkS 32 H))) ∧ KtAt w' b (mixH H (boxT K non0 s (mkS 32 H))) C K ∧ Touch (fun x => x = b) w w' := by
 have hbl := g.lt
 have HZ := Hid.mk (fun u => Seal_run K non0 s (mkS 32 H) u hK non0_b hs (by rw [mkS_size]; omega))
 have hZs : (boxT K non0 s (mkS 32 H)).size ≤ 281474976710656 := by rw [boxT_size]; omega
 have HH := Hid.mk hH
 generalize boxT K non0 s (mkS 32 H) = Z at *
 go_enter Tryz.func82, Tryz.ntmps82
 go_wp2_with fail
 have HST : Hid (∀ u, Below w.heap.size w u → KtAt u b H C K) := Hid.mk (fun u hu => g.kept hu)
 refine wp_region3 (Below w.heap.size w) w.heap.size
   ([] : List (Nat × Cont))
   [kv (.pointer (some ⟨b, 0, none⟩)), kv (.pointer (some ⟨b, 0, none⟩)), kv (.pointer (some ⟨b, 64, none⟩)), kv (.agg (WA .u8 32 K)), kv (.agg (WA .u8 12 non0)), kv (.string s), kv (.pointer (some ⟨b, 0, none⟩)), kv (.pointer (some ⟨b, 0, none⟩)), kv (.pointer (some ⟨b, 0, none⟩)), kv (.slice (some ⟨b, 0, none⟩) 32 32), kv (.string (mkS 32 H)), kv (.string Z), kv (.string Z)]
   [.none, .none, .none, .none, .none, .none, .none, .none, .none, .none, .none, .none, .none]
   [some 6, some 7, some 8, some 9, some 10, some 11, some 12, some 13, some 14, some 15, some 16, some 17, some 5]
   [(0, .pointer (some ⟨b, 0, none⟩)), (1, .string s)]
   [[], [.slot 0], [.slot 1], [.slot 2], [], [], [], [.slot 6], [.slot 7], [.slot 8], [.slot 9], [.slot 3, .slot 4, .slot 5, .slot 10], [.slot 11]]
   [.slot 12] [6, 7, 8, 9, 10, 11, 12, 13, 14, 15, 16, 17, 5]
   rfl (by kernel_rfl) ⟨rfl, rfl, trivial⟩ (Below.refl _ w).drew (Nat.le_refl _) trivial trivial (below_G (Nat.le_refl _) trivial)
   ⟨
    (fun Q aq ww own hS hBg fr kn => .inl ⟨trivial, fun K hK => wp_value (exec_move rfl fr.1) (hK _ _ ⟨Touch.refl _ _, rfl⟩)⟩),
    (fun Q aq ww own hS hBg fr kn => .inl ⟨trivial, fun K hK => wp_value (exec_nilc rfl kn.1) (hK _ _ ⟨Touch.refl _ _, rfl⟩)⟩),
    (fun Q aq ww own hS hBg fr kn => .inl ⟨trivial, fun K hK => wp_value (exec_fk (k := 2) rfl kn.1 (by decide)) (hK _ _ ⟨Touch.refl _ _, rfl⟩)⟩),
    (fun Q aq ww own hS hBg fr kn => .inl ⟨trivial, fun K hK => wp_value (exec_ldmid rfl isArr32 kn.1 (HST.out ww hS).k) (hK _ _ ⟨Touch.refl _ _, rfl⟩)⟩),
    (fun Q aq ww own hS hBg fr kn => .inl ⟨trivial, fun K hK => stepc enterNonceC rfl (args1 rfl) (Nonce_run 0 ww) (fun w' hb => hK _ _ ⟨touch_below hb, rfl⟩)⟩),
    (fun Q aq ww own hS hBg fr kn => .inl ⟨trivial, fun K hK => wp_value (exec_move rfl fr.2.1) (hK _ _ ⟨Touch.refl _ _, rfl⟩)⟩),
    (fun Q aq ww own hS hBg fr kn => .inl ⟨trivial, fun K hK => wp_value (exec_move rfl fr.1) (hK _ _ ⟨Touch.refl _ _, rfl⟩)⟩),
    (fun Q aq ww own hS hBg fr kn => .inl ⟨trivial, fun K hK => wp_value (exec_nilc rfl kn.1) (hK _ _ ⟨Touch.refl _ _, rfl⟩)⟩),
    (fun Q aq ww own hS hBg fr kn => .inl ⟨trivial, fun K hK => wp_value (exec_fk (k := 0) rfl kn.1 (by decide)) (hK _ _ ⟨Touch.refl _ _, rfl⟩)⟩),
    (fun Q aq ww own hS hBg fr kn => .inl ⟨trivial, fun K hK => wp_value (exec_sl rfl kn.1 (sl32o b 0 ww)) (hK _ _ ⟨Touch.refl _ _, rfl⟩)⟩),
    (fun Q aq ww own hS hBg fr kn => .inl ⟨trivial, fun K hK => wp_value (exec_conv rfl kn.1 (str_cells b 0 32 ww H HH.out (HST.out ww hS).h)) (hK _ _ ⟨Touch.refl _ _, rfl⟩)⟩),
    (fun Q aq ww own hS hBg fr kn => .inl ⟨trivial, fun K hK => stepc enterSealC rfl (args4 kn.1 kn.2.1 kn.2.2.1 kn.2.2.2.1) (HZ.out ww) (fun w' hb => hK _ _ ⟨touch_below hb, rfl⟩)⟩),
    (fun Q aq ww own hS hBg fr kn => .inl ⟨trivial, fun K hK => wp_value (exec_assign rfl kn.1) (hK _ _ ⟨Touch.refl _ _, rfl⟩)⟩),
    trivial⟩ ?_
 intro vs own v1 hB1 hs1 kn inj
 clear inj hs1 HST HZ
 have e5 : vs 5 = _ := kn.1
 clear kn
 replace g := g.kept hB1
 replace hE := hE.kept hB1
 have ht := belT b hB1
 clear hB1
 simp only [putAll, Act.put, List.setIfInBounds_toArray, List.set_cons_zero, List.set_cons_succ, e5]
 go_wp2_with (refine wl_bs1 (s := Z) (by rfl) ?_; intro v5 hS5 hb5 hz5; refine Hid.out ?_)
 have hst := g.lt
 replace g := g.kept hb5
 replace hE := hE.kept hb5
 replace ht := ht.trans (belT b hb5)
 clear hz5
 refine Hid.mk ?_
 go_wp2_with fail
 refine (mixIn_run b H C K _ 1 (one1 Z) _ hE hb3 g hH (fun u hu => hS5.touch (fun p n c hp => by cases hp; exact Nat.ne_of_gt hst) hu) (by omega) (fun i _ => by show Z.size ≤ _; omega)).mono ?_
 rintro x v6 ⟨rfl, g6, t6⟩
 go_wp2_with fail
 go_ret
 exact ⟨rfl, g6, ht.trans t6⟩
set_option maxHeartbeats 1600000 in
set_option maxRecDepth 100000 in
theorem open_ok (b : Nat) (H C K : Nat → Int) (s : ByteArray) (w : World) (hE : Env w) (hb3 : 3 ≤ b) (g : KtAt w b H C K) (hH : Byts 32 H) (hK : Byts 32 K) (hs : s.size ≤ 140737488355328) (hz : (openT K non0 s (mkS 32 H)).2 = 0) :
  Calls Tryz.prog 89 #[.pointer (some ⟨b, 0, none⟩), .string s] w fun e w' => e = .returned (.string (openT K non0 s (mkS 32 H)).1) ∧ KtAt w' b (mixH H s) C K ∧ Touch (fun x => x = b) w w' := by
 have hbl := g.lt
 have HZ := Hid.mk (fun u => Open_run K non0 s (mkS 32 H) u hK non0_b hs (by rw [mkS_size]; omega))
 have HH := Hid.mk hH
 generalize openT K non0 s (mkS 32 H) = Z at *
 go_enter Tryz.func89, Tryz.ntmps89
 go_wp2_with fail
 have HST : Hid (∀ u, Below w.heap.size w u → KtAt u b H C K) := Hid.mk (fun u hu => g.kept hu)
 refine wp_region3 (Below w.heap.size w) w.heap.size
   ([] : List (Nat × Cont))
   [kv (.pointer (some ⟨b, 0, none⟩)), kv (.pointer (some ⟨b, 0, none⟩)), kv (.pointer (some ⟨b, 64, none⟩)), kv (.agg (WA .u8 32 K)), kv (.agg (WA .u8 12 non0)), kv (.string s), kv (.pointer (some ⟨b, 0, none⟩)), kv (.pointer (some ⟨b, 0, none⟩)), kv (.pointer (some ⟨b, 0, none⟩)), kv (.slice (some ⟨b, 0, none⟩) 32 32), kv (.string (mkS 32 H)), kv (.tuple #[.string Z.1, .int .i64 Z.2]), kv (.tuple #[.string Z.1, .int .i64 Z.2]), kv (.string Z.1), kv (.int .i64 Z.2), kv (.string Z.1), kv (.int .i64 Z.2)]
   [.none, .none, .none, .none, .none, .none, .none, .none, .none, .none, .none, .none, .none, .none, .none, .none, .none]
   [some 8, some 9, some 10, some 11, some 12, some 13, some 14, some 15, some 16, some 17, some 18, some 19, some 7, some 20, some 21, some 5, some 6]
   [(0, .pointer (some ⟨b, 0, none⟩)), (1, .string s)]
   [[], [.slot 0], [.slot 1], [.slot 2], [], [], [], [.slot 6], [.slot 7], [.slot 8], [.slot 9], [.slot 3, .slot 4, .slot 5, .slot 10], [.slot 11], [.slot 12], [.slot 12], [.slot 13], [.slot 14]]
   [.slot 15, .slot 16] [8, 9, 10, 11, 12, 13, 14, 15, 16, 17, 18, 19, 7, 20, 21, 5, 6]
   rfl (by kernel_rfl) ⟨rfl, rfl, trivial⟩ (Below.refl _ w).drew (Nat.le_refl _) trivial trivial (below_G (Nat.le_refl _) trivial)
   ⟨
    (fun Q aq ww own hS hBg fr kn => .inl ⟨trivial, fun K hK => wp_value (exec_move rfl fr.1) (hK _ _ ⟨Touch.refl _ _, rfl⟩)⟩),
    (fun Q aq ww own hS hBg fr kn => .inl ⟨trivial, fun K hK => wp_value (exec_nilc rfl kn.1) (hK _ _ ⟨Touch.refl _ _, rfl⟩)⟩),
    (fun Q aq ww own hS hBg fr kn => .inl ⟨trivial, fun K hK => wp_value (exec_fk (k := 2) rfl kn.1 (by decide)) (hK _ _ ⟨Touch.refl _ _, rfl⟩)⟩),
    (fun Q aq ww own hS hBg fr kn => .inl ⟨trivial, fun K hK => wp_value (exec_ldmid rfl isArr32 kn.1 (HST.out ww hS).k) (hK _ _ ⟨Touch.refl _ _, rfl⟩)⟩),
    (fun Q aq ww own hS hBg fr kn => .inl ⟨trivial, fun K hK => stepc enterNonceC rfl (args1 rfl) (Nonce_run 0 ww) (fun w' hb => hK _ _ ⟨touch_below hb, rfl⟩)⟩),
    (fun Q aq ww own hS hBg fr kn => .inl ⟨trivial, fun K hK => wp_value (exec_move rfl fr.2.1) (hK _ _ ⟨Touch.refl _ _, rfl⟩)⟩),
    (fun Q aq ww own hS hBg fr kn => .inl ⟨trivial, fun K hK => wp_value (exec_move rfl fr.1) (hK _ _ ⟨Touch.refl _ _, rfl⟩)⟩),
    (fun Q aq ww own hS hBg fr kn => .inl ⟨trivial, fun K hK => wp_value (exec_nilc rfl kn.1) (hK _ _ ⟨Touch.refl _ _, rfl⟩)⟩),
    (fun Q aq ww own hS hBg fr kn => .inl ⟨trivial, fun K hK => wp_value (exec_fk (k := 0) rfl kn.1 (by decide)) (hK _ _ ⟨Touch.refl _ _, rfl⟩)⟩),
    (fun Q aq ww own hS hBg fr kn => .inl ⟨trivial, fun K hK => wp_value (exec_sl rfl kn.1 (sl32o b 0 ww)) (hK _ _ ⟨Touch.refl _ _, rfl⟩)⟩),
    (fun Q aq ww own hS hBg fr kn => .inl ⟨trivial, fun K hK => wp_value (exec_conv rfl kn.1 (str_cells b 0 32 ww H HH.out (HST.out ww hS).h)) (hK _ _ ⟨Touch.refl _ _, rfl⟩)⟩),
    (fun Q aq ww own hS hBg fr kn => .inl ⟨trivial, fun K hK => stepc enterOpenC rfl (args4 kn.1 kn.2.1 kn.2.2.1 kn.2.2.2.1) (HZ.out ww) (fun w' hb => hK _ _ ⟨touch_below hb, rfl⟩)⟩),
    (fun Q aq ww own hS hBg fr kn => .inl ⟨trivial, fun K hK => wp_value (exec_move rfl kn.1) (hK _ _ ⟨Touch.refl _ _, rfl⟩)⟩),
    (fun Q aq ww own hS hBg fr kn => .inl ⟨trivial, fun K hK => wp_value (exec_ext rfl kn.1 rfl) (hK _ _ ⟨Touch.refl _ _, rfl⟩)⟩),
    (fun Q aq ww own hS hBg fr kn => .inl ⟨trivial, fun K hK => wp_value (exec_ext rfl kn.1 rfl) (hK _ _ ⟨Touch.refl _ _, rfl⟩)⟩),
    (fun Q aq ww own hS hBg fr kn => .inl ⟨trivial, fun K hK => wp_value (exec_assign rfl kn.1) (hK _ _ ⟨Touch.refl _ _, rfl⟩)⟩),
    (fun Q aq ww own hS hBg fr kn => .inl ⟨trivial, fun K hK => wp_value (exec_assign rfl kn.1) (hK _ _ ⟨Touch.refl _ _, rfl⟩)⟩),
    trivial⟩ ?_
 intro vs own v1 hB1 hs1 kn inj
 clear inj hs1 HST HZ
 have e5 : vs 5 = _ := kn.1
 have e6 : vs 6 = _ := kn.2.1
 clear kn
 replace g := g.kept hB1
 replace hE := hE.kept hB1
 have ht := belT b hB1
 clear hB1
 simp only [putAll, Act.put, List.setIfInBounds_toArray, List.set_cons_zero, List.set_cons_succ, e5, e6]
 rw [hz]
 go_wp2_with fail
 refine (need_ok 0 _).mono ?_
 rintro x v2 ⟨rfl, rfl⟩
 go_wp2_with (refine wl_bs1 (s := s) (by rfl) ?_; intro v5 hS5 hb5 hz5; refine Hid.out ?_)
 have hst := g.lt
 replace g := g.kept hb5
 replace hE := hE.kept hb5
 replace ht := ht.trans (belT b hb5)
 clear hz5
 refine Hid.mk ?_
 go_wp2_with fail
 refine (mixIn_run b H C K _ 1 (one1 s) _ hE hb3 g hH (fun u hu => hS5.touch (fun p n c hp => by cases hp; exact Nat.ne_of_gt hst) hu) (by omega) (fun i _ => by show s.size ≤ _; omega)).mono ?_
 rintro x v6 ⟨rfl, g6, t6⟩
 go_wp2_with fail
 go_ret
 exact ⟨rfl, g6, ht.trans t6⟩
set_option maxHeartbeats 1600000 in
set_option maxRecDepth 100000 in
set_option linter.unusedVariables false in
theorem open_no (b : Nat) (H C K : Nat → Int) (s : ByteArray) (w : World) (hE : Env w) (hb3 : 3 ≤ b) (g : KtAt w b H C K) (hH : Byts 32 H) (hK : Byts 32 K) (hs : s.size ≤ 140737488355328) (hz : ¬ (openT K non0 s (mkS 32 H)).2 = 0) :
  Calls Tryz.prog 89 #[.pointer (some ⟨b, 0, none⟩), .string s] w fun e w' => e = gup 13 ∧ Touch (fun x => x = b) w w' := by
 have hz2 : openT K non0 s (mkS 32 H) = (⟨#[]⟩, 13) := (openT_two K non0 s (mkS 32 H)).resolve_left hz
 clear hz
 have hbl := g.lt
 have HZ := Hid.mk (fun u => Open_run K non0 s (mkS 32 H) u hK non0_b hs (by rw [mkS_size]; omega))
 have HH := Hid.mk hH
 generalize openT K non0 s (mkS 32 H) = Z at *
 go_enter Tryz.func89, Tryz.ntmps89
 go_wp2_with fail
 have HST : Hid (∀ u, Below w.heap.size w u → KtAt u b H C K) := Hid.mk (fun u hu => g.kept hu)
 refine wp_region3 (Below w.heap.size w) w.heap.size
   ([] : List (Nat × Cont))
   [kv (.pointer (some ⟨b, 0, none⟩)), kv (.pointer (some ⟨b, 0, none⟩)), kv (.pointer (some ⟨b, 64, none⟩)), kv (.agg (WA .u8 32 K)), kv (.agg (WA .u8 12 non0)), kv (.string s), kv (.pointer (some ⟨b, 0, none⟩)), kv (.pointer (some ⟨b, 0, none⟩)), kv (.pointer (some ⟨b, 0, none⟩)), kv (.slice (some ⟨b, 0, none⟩) 32 32), kv (.string (mkS 32 H)), kv (.tuple #[.string Z.1, .int .i64 Z.2]), kv (.tuple #[.string Z.1, .int .i64 Z.2]), kv (.string Z.1), kv (.int .i64 Z.2), kv (.string Z.1), kv (.int .i64 Z.2)]
   [.none, .none, .none, .none, .none, .none, .none, .none, .none, .none, .none, .none, .none, .none, .none, .none, .none]
   [some 8, some 9, some 10, some 11, some 12, some 13, some 14, some 15, some 16, some 17, some 18, some 19, some 7, some 20, some 21, some 5, some 6]
   [(0, .pointer (some ⟨b, 0, none⟩)), (1, .string s)]
   [[], [.slot 0], [.slot 1], [.slot 2], [], [], [], [.slot 6], [.slot 7], [.slot 8], [.slot 9], [.slot 3, .slot 4, .slot 5, .slot 10], [.slot 11], [.slot 12], [.slot 12], [.slot 13], [.slot 14]]
   [.slot 15, .slot 16] [8, 9, 10, 11, 12, 13, 14, 15, 16, 17, 18, 19, 7, 20, 21, 5, 6]
   rfl (by kernel_rfl) ⟨rfl, rfl, trivial⟩ (Below.refl _ w).drew (Nat.le_refl _) trivial trivial (below_G (Nat.le_refl _) trivial)
   ⟨
    (fun Q aq ww own hS hBg fr kn => .inl ⟨trivial, fun K hK => wp_value (exec_move rfl fr.1) (hK _ _ ⟨Touch.refl _ _, rfl⟩)⟩),
    (fun Q aq ww own hS hBg fr kn => .inl ⟨trivial, fun K hK => wp_value (exec_nilc rfl kn.1) (hK _ _ ⟨Touch.refl _ _, rfl⟩)⟩),
    (fun Q aq ww own hS hBg fr kn => .inl ⟨trivial, fun K hK => wp_value (exec_fk (k := 2) rfl kn.1 (by decide)) (hK _ _ ⟨Touch.refl _ _, rfl⟩)⟩),
    (fun Q aq ww own hS hBg fr kn => .inl ⟨trivial, fun K hK => wp_value (exec_ldmid rfl isArr32 kn.1 (HST.out ww hS).k) (hK _ _ ⟨Touch.refl _ _, rfl⟩)⟩),
    (fun Q aq ww own hS hBg fr kn => .inl ⟨trivial, fun K hK => stepc enterNonceC rfl (args1 rfl) (Nonce_run 0 ww) (fun w' hb => hK _ _ ⟨touch_below hb, rfl⟩)⟩),
    (fun Q aq ww own hS hBg fr kn => .inl ⟨trivial, fun K hK => wp_value (exec_move rfl fr.2.1) (hK _ _ ⟨Touch.refl _ _, rfl⟩)⟩),
    (fun Q aq ww own hS hBg fr kn => .inl ⟨trivial, fun K hK => wp_value (exec_move rfl fr.1) (hK _ _ ⟨Touch.refl _ _, rfl⟩)⟩),
    (fun Q aq ww own hS hBg fr kn => .inl ⟨trivial, fun K hK => wp_value (exec_nilc rfl kn.1) (hK _ _ ⟨Touch.refl _ _, rfl⟩)⟩),
    (fun Q aq ww own hS hBg fr kn => .inl ⟨trivial, fun K hK => wp_value (exec_fk (k := 0) rfl kn.1 (by decide)) (hK _ _ ⟨Touch.refl _ _, rfl⟩)⟩),
    (fun Q aq ww own hS hBg fr kn => .inl ⟨trivial, fun K hK => wp_value (exec_sl rfl kn.1 (sl32o b 0 ww)) (hK _ _ ⟨Touch.refl _ _, rfl⟩)⟩),
    (fun Q aq ww own hS hBg fr kn => .inl ⟨trivial, fun K hK => wp_value (exec_conv rfl kn.1 (str_cells b 0 32 ww H HH.out (HST.out ww hS).h)) (hK _ _ ⟨Touch.refl _ _, rfl⟩)⟩),
    (fun Q aq ww own hS hBg fr kn => .inl ⟨trivial, fun K hK => stepc enterOpenC rfl (args4 kn.1 kn.2.1 kn.2.2.1 kn.2.2.2.1) (HZ.out ww) (fun w' hb => hK _ _ ⟨touch_below hb, rfl⟩)⟩),
    (fun Q aq ww own hS hBg fr kn => .inl ⟨trivial, fun K hK => wp_value (exec_move rfl kn.1) (hK _ _ ⟨Touch.refl _ _, rfl⟩)⟩),
    (fun Q aq ww own hS hBg fr kn => .inl ⟨trivial, fun K hK => wp_value (exec_ext rfl kn.1 rfl) (hK _ _ ⟨Touch.refl _ _, rfl⟩)⟩),
    (fun Q aq ww own hS hBg fr kn => .inl ⟨trivial, fun K hK => wp_value (exec_ext rfl kn.1 rfl) (hK _ _ ⟨Touch.refl _ _, rfl⟩)⟩),
    (fun Q aq ww own hS hBg fr kn => .inl ⟨trivial, fun K hK => wp_value (exec_assign rfl kn.1) (hK _ _ ⟨Touch.refl _ _, rfl⟩)⟩),
    (fun Q aq ww own hS hBg fr kn => .inl ⟨trivial, fun K hK => wp_value (exec_assign rfl kn.1) (hK _ _ ⟨Touch.refl _ _, rfl⟩)⟩),
    trivial⟩ ?_
 intro vs own v1 hB1 hs1 kn inj
 clear inj hs1 HST HZ
 have e5 : vs 5 = _ := kn.1
 have e6 : vs 6 = _ := kn.2.1
 clear kn
 replace g := g.kept hB1
 replace hE := hE.kept hB1
 have ht := belT b hB1
 clear hB1
 simp only [putAll, Act.put, List.setIfInBounds_toArray, List.set_cons_zero, List.set_cons_succ, e5, e6]
 rw [hz2]
 go_wp2_with fail
 refine (need_no 13 _).mono ?_
 rintro x v2 ⟨rfl, rfl⟩
 exact ⟨rfl, rfl, ht⟩
set_option maxHeartbeats 1600000 in
theorem secretKey_run (b : Nat) (H C K M U : Nat → Int) (w : World) (hE : Env w) (g : KtAt w b H C K) (hC : Byts 32 C) (hM : Byts 32 M) (hU : Byts 32 U) (hz : shZ M U = true) :
  Calls Tryz.prog 80 #[.func (.func 81) #[.pointer (some ⟨b, 0, none⟩)] #[], .agg (WA .u8 32 M), .agg (WA .u8 32 U)] w fun e w' => e = .returned (.tuple #[]) ∧ KtAt w' b H (chn C (mkS 32 (shF M U)) 0) (chn C (mkS 32 (shF M U)) 1) ∧ Touch (fun x => x = b) w w' := by
 have hbl := g.lt
 have hB : Below w.heap.size w ((w.alloc (.cells (WA .u8 32 M) 22)).alloc (.cells (WA .u8 32 U) 22)) := ((Below.refl _ w).alloc (by simp) _).alloc (by simp) _
 have g0 : ArrAt ((w.alloc (.cells (WA .u8 32 M) 22)).alloc (.cells (WA .u8 32 U) 22)) w.heap.size .u8 22 32 M := heap_alloc2_old w _ _
 have g1 : ArrAt ((w.alloc (.cells (WA .u8 32 M) 22)).alloc (.cells (WA .u8 32 U) 22)) (w.heap.size + 1) .u8 22 32 U := heap_alloc2_new w _ _
 have hEB := hE.kept hB
 have HP := Hid.mk hEB.2
 go_enter Tryz.func80, Tryz.ntmps80
 go_wp2_with (first | (refine ld_arr isArr32 g0 (by rfl) ?_) | (refine ld_arr isArr32 g1 (by rfl) ?_))
 refine (Shared_run M U _ HP.out hM hU).mono ?_
 rintro x v1 ⟨rfl, hb1⟩
 replace hB := hB.trans (hb1.mono hB.size)
 clear hb1 g0 g1 hEB HP
 rw [hz]
 have hs1 := shF_b M U 32
 obtain ⟨S, hSe⟩ : ∃ S, shF M U = S := ⟨_, rfl⟩
 rw [hSe] at hs1 ⊢
 have hv1 := hB.size
 go_wp2_with (refine wl_alloc32 ?_; intro v2 gs hb2; refine Hid.out ?_)
 replace hB := hB.trans (hb2.mono hB.size)
 clear hb2
 refine Hid.mk ?_
 go_wp2_with (refine st_arr isArr32 gs (by rfl) (by rfl) ?_; intro v3 gs3 o3; refine Hid.out ?_)
 replace hB := hB.trans (o3.below hv1)
 clear o3 gs
 refine Hid.mk ?_
 go_wp2_with fail
 refine (need_ok 18 _).mono ?_
 rintro x v4 ⟨rfl, rfl⟩
 have hcv := str_back 32 v1.heap.size 32 v4 32 S gs3.row hs1 rfl
 go_wp2_with fail
 refine (keyIn_run b H C K (mkS 32 S) _ (hE.kept hB) (g.kept hB) hC (by rw [mkS_size]; omega)).mono ?_
 rintro x v5 ⟨rfl, g5, t5⟩
 go_wp2_with fail
 refine bodyPost_end (results_none rfl _ _ _) rfl ⟨rfl, ?_, (belT b hB).trans t5⟩
 rw [hSe]
 exact g5
set_option maxHeartbeats 1600000 in
theorem secretChain_run (b : Nat) (H C K M U : Nat → Int) (w : World) (hE : Env w) (g : KtAt w b H C K) (hC : Byts 32 C) (hM : Byts 32 M) (hU : Byts 32 U) (hz : shZ M U = true) :
  Calls Tryz.prog 80 #[.func (.func 92) #[.pointer (some ⟨b, 0, none⟩)] #[], .agg (WA .u8 32 M), .agg (WA .u8 32 U)] w fun e w' => e = .returned (.tuple #[]) ∧ KtAt w' b H (chn C (mkS 32 (shF M U)) 0) K ∧ Touch (fun x => x = b) w w' := by
 have hbl := g.lt
 have hB : Below w.heap.size w ((w.alloc (.cells (WA .u8 32 M) 22)).alloc (.cells (WA .u8 32 U) 22)) := ((Below.refl _ w).alloc (by simp) _).alloc (by simp) _
 have g0 : ArrAt ((w.alloc (.cells (WA .u8 32 M) 22)).alloc (.cells (WA .u8 32 U) 22)) w.heap.size .u8 22 32 M := heap_alloc2_old w _ _
 have g1 : ArrAt ((w.alloc (.cells (WA .u8 32 M) 22)).alloc (.cells (WA .u8 32 U) 22)) (w.heap.size + 1) .u8 22 32 U := heap_alloc2_new w _ _
 have hEB := hE.kept hB
 have HP := Hid.mk hEB.2
 go_enter Tryz.func80, Tryz.ntmps80
 go_wp2_with (first | (refine ld_arr isArr32 g0 (by rfl) ?_) | (refine ld_arr isArr32 g1 (by rfl) ?_))
 refine (Shared_run M U _ HP.out hM hU).mono ?_
 rintro x v1 ⟨rfl, hb1⟩
 replace hB := hB.trans (hb1.mono hB.size)
 clear hb1 g0 g1 hEB HP
 rw [hz]
 have hs1 := shF_b M U 32
 obtain ⟨S, hSe⟩ : ∃ S, shF M U = S := ⟨_, rfl⟩
 rw [hSe] at hs1 ⊢
 have hv1 := hB.size
 go_wp2_with (refine wl_alloc32 ?_; intro v2 gs hb2; refine Hid.out ?_)
 replace hB := hB.trans (hb2.mono hB.size)
 clear hb2
 refine Hid.mk ?_
 go_wp2_with (refine st_arr isArr32 gs (by rfl) (by rfl) ?_; intro v3 gs3 o3; refine Hid.out ?_)
 replace hB := hB.trans (o3.below hv1)
 clear o3 gs
 refine Hid.mk ?_
 go_wp2_with fail
 refine (need_ok 18 _).mono ?_
 rintro x v4 ⟨rfl, rfl⟩
 have hcv := str_back 32 v1.heap.size 32 v4 32 S gs3.row hs1 rfl
 go_wp2_with fail
 refine (chainIn_run b H C K (mkS 32 S) _ (hE.kept hB) (g.kept hB) hC (by rw [mkS_size]; omega)).mono ?_
 rintro x v5 ⟨rfl, g5, t5⟩
 go_wp2_with fail
 refine bodyPost_end (results_none rfl _ _ _) rfl ⟨rfl, ?_, (belT b hB).trans t5⟩
 rw [hSe]
 exact g5
set_option maxHeartbeats 1600000 in
theorem secret_no (f : Value) (M U : Nat → Int) (w : World) (hE : Env w) (hM : Byts 32 M) (hU : Byts 32 U) (hz : shZ M U = false) :
  Calls Tryz.prog 80 #[f, .agg (WA .u8 32 M), .agg (WA .u8 32 U)] w fun e w' => e = gup 18 ∧ Below w.heap.size w w' := by
 have hB : Below w.heap.size w ((w.alloc (.cells (WA .u8 32 M) 22)).alloc (.cells (WA .u8 32 U) 22)) := ((Below.refl _ w).alloc (by simp) _).alloc (by simp) _
 have g0 : ArrAt ((w.alloc (.cells (WA .u8 32 M) 22)).alloc (.cells (WA .u8 32 U) 22)) w.heap.size .u8 22 32 M := heap_alloc2_old w _ _
 have g1 : ArrAt ((w.alloc (.cells (WA .u8 32 M) 22)).alloc (.cells (WA .u8 32 U) 22)) (w.heap.size + 1) .u8 22 32 U := heap_alloc2_new w _ _
 have hEB := hE.kept hB
 have HP := Hid.mk hEB.2
 go_enter Tryz.func80, Tryz.ntmps80
 go_wp2_with (first | (refine ld_arr isArr32 g0 (by rfl) ?_) | (refine ld_arr isArr32 g1 (by rfl) ?_))
 refine (Shared_run M U _ HP.out hM hU).mono ?_
 rintro x v1 ⟨rfl, hb1⟩
 replace hB := hB.trans (hb1.mono hB.size)
 clear hb1 g0 g1 hEB HP
 rw [hz]
 generalize shF M U = S at *
 have hv1 := hB.size
 go_wp2_with (refine wl_alloc32 ?_; intro v2 gs hb2; refine Hid.out ?_)
 replace hB := hB.trans (hb2.mono hB.size)
 clear hb2
 refine Hid.mk ?_
 go_wp2_with (refine st_arr isArr32 gs (by rfl) (by rfl) ?_; intro v3 gs3 o3; refine Hid.out ?_)
 replace hB := hB.trans (o3.below hv1)
 clear o3 gs
 refine Hid.mk ?_
 go_wp2_with fail
 refine (need_no 18 _).mono ?_
 rintro x v4 ⟨rfl, rfl⟩
 exact ⟨rfl, rfl, hB⟩
theorem run_ktB (H C : Nat → Int) (w : World) : (Instr.build 121 #[(0, .agg (WA .u8 32 H)), (1, .agg (WA .u8 32 C))]).run Tryz.prog w = .ok (.agg (WA .u8 96 (ktF H C fun _ => 0))) w := by kernel_rfl
theorem exec_ktB {a : Act} {o : Oper} {w : World} {x y : Operand} (ho : o.op = .build 121 #[(0, x), (1, y)]) {H C : Nat → Int} (hx : a.eval x = .agg (WA .u8 32 H)) (hy : a.eval y = .agg (WA .u8 32 C)) : (execOp a.eval o).run Tryz.prog w = .ok (.value (.agg (WA .u8 96 (ktF H C fun _ => 0)))) w := by
 have h := run_ktB H C w
 unfold execOp
 simp only [ho, List.map_toArray, List.map_cons, List.map_nil, hx, hy, Sem.run_bind, h, Result.andThen_ok, Sem.run_pure]
theorem wl_boxK {ops : Array Oper} {rest : List Oper} {d : Option Tmp} {x : Operand} {t : TypeId} {ps : String} {af : Array Edge} {a : Act} {w : World} {Q : Exit → Act → World → Prop} {H C K : Nat → Int} (hx : a.eval x = .agg (WA .u8 96 (ktF H C K)))
  (h : ∀ w', KtAt w' w.heap.size H C K → Below w.heap.size w w' → wpList Tryz.prog ops Q rest (a.put d (.pointer (some ⟨w.heap.size, 0, none⟩))) w') :
  wpList Tryz.prog ops Q ({ dst := d, op := .box 121 x, type := t, pos := ps, after := af, guard := none } :: rest) a w := by
 refine wl_act rfl ?_
 unfold Oper.wp execOp
 simp only [hx]
 simp [go_sem]
 exact h _ (heap_alloc_new w _) ((Below.refl _ _).alloc (Nat.le_refl _) _)
set_option maxHeartbeats 1600000 in
theorem goingOn_run (H C O R P : Nat → Int) (l f : Int) (w : World) :
  Calls Tryz.prog 91 #[.agg (SC 162 (hanV H C O R P l f))] w fun e w' => ∃ b, w.heap.size ≤ b ∧ e = .returned (.pointer (some ⟨b, 0, none⟩)) ∧ KtAt w' b H C (fun _ => 0) ∧ Below w.heap.size w w' := by
 have hB : Below w.heap.size w (w.alloc (.cells (SC 162 (hanV H C O R P l f)) 31)) := (Below.refl _ w).alloc (Nat.le_refl _) _
 have g0 : SAt (w.alloc (.cells (SC 162 (hanV H C O R P l f)) 31)) w.heap.size 31 162 (hanV H C O R P l f) := heap_alloc_new w _
 have h1 := han_h g0
 have h2 := han_c g0
 go_enter Tryz.func91, Tryz.ntmps91
 go_wp2_with (first | (refine wl_value rfl (exec_ldmid rfl isArr32 (by rfl) h1) ?_) | (refine wl_value rfl (exec_ldmid rfl isArr32 (by rfl) h2) ?_) | (refine wl_value rfl (exec_ktB rfl (by rfl) (by rfl)) ?_) | (refine wl_boxK (by rfl) ?_; intro v1 g1 hb1; refine Hid.out ?_))
 replace hB := hB.trans (hb1.mono hB.size)
 have e1 : ∀ o, (w.alloc o).heap.size = w.heap.size + 1 := fun o => by simp
 rw [e1] at g1
 clear e1
 refine Hid.mk ?_
 go_wp2_with fail
 go_ret
 exact ⟨w.heap.size + 1, by omega, rfl, g1, hB⟩
end Go.Proofs.YthghcjepdhkfdaaGreatDoor

/-
  Own text. Package noise: the beginning of a handshake.
-/
namespace Go.Proofs.YthghcjepdhkfdaaGreatDoor
open Go.RowKit Go.Proofs
set_option maxRecDepth 100000
theorem mixL2 (H : Nat → Int) (s t : ByteArray) : mixL H (two2 s t) 2 = mixH (mixH H s) t := by simp only [mixL, two2]
set_option maxHeartbeats 1600000 in
theorem beginning_gen (t C0 : Nat → Int) (w : World) (hE : Env w) (ht : Byts 32 t) (hC0 : Byts 32 C0)
  (hS : ∀ u v, Tabs u → Strs u v 1 (one1 ⟨#[78, 111, 105, 115, 101, 95, 73, 75, 112, 115, 107, 50, 95, 50, 53, 53, 49, 57, 95, 67, 104, 97, 67, 104, 97, 80, 111, 108, 121, 95, 66, 76, 65, 75, 69, 50, 115]⟩) → Calls Tryz.prog 107 #[v] u fun e w' => e = .returned (.agg (WA .u8 32 C0)) ∧ Below u.heap.size u w') :
  Calls Tryz.prog 78 #[.agg (WA .u8 32 t)] w fun e w' => ∃ b, w.heap.size ≤ b ∧ e = .returned (.pointer (some ⟨b, 0, none⟩)) ∧ KtAt w' b (mixH (mixH C0 ⟨#[97, 100, 105, 116, 32, 49]⟩) (mkS 32 t)) C0 (fun _ => 0) ∧ Below w.heap.size w w' := by
 have hB : Below w.heap.size w (w.alloc (.cells (WA .u8 32 t) 22)) := (Below.refl _ w).alloc (Nat.le_refl _) _
 have g0 : ArrAt (w.alloc (.cells (WA .u8 32 t) 22)) w.heap.size .u8 22 32 t := heap_alloc_new w _
 have hE1 := Hid.mk (hE.kept hB)
 have h3 := hE.two
 clear hE
 go_enter Tryz.func78, Tryz.ntmps78
 go_wp2_with (refine wl_bs1 (s := ⟨#[78, 111, 105, 115, 101, 95, 73, 75, 112, 115, 107, 50, 95, 50, 53, 53, 49, 57, 95, 67, 104, 97, 67, 104, 97, 80, 111, 108, 121, 95, 66, 76, 65, 75, 69, 50, 115]⟩) (by rfl) ?_; intro v1 hS1 hb1 hz1; refine Hid.out ?_)
 have e1 : ∀ o, (w.alloc o).heap.size = w.heap.size + 1 := fun o => by simp
 rw [e1] at hS1
 have hE := hE1.out.kept hb1
 replace hB := hB.trans (hb1.mono hB.size)
 replace g0 := g0.kept hb1
 clear hE1 hz1 hb1 e1
 refine Hid.mk ?_
 go_wp2_with fail
 refine (hS _ _ hE.1 hS1).mono ?_
 rintro x v2 ⟨rfl, hb2⟩
 replace hE := hE.kept hb2
 replace hB := hB.trans (hb2.mono hB.size)
 replace g0 := g0.kept hb2
 clear hb2 hS1 hS
 have hlt := g0.lt
 have hB2 := hB.size
 go_wp2_with (refine wl_alloc32 ?_; intro v3 gn hb3; refine Hid.out ?_)
 replace hE := hE.kept hb3
 replace hB := hB.trans (hb3.mono hB.size)
 replace g0 := g0.kept hb3
 clear hb3
 refine Hid.mk ?_
 go_wp2_with (refine st_arr isArr32 gn (by rfl) (by rfl) ?_; intro v4 gn4 o4; refine Hid.out ?_)
 replace hE := hE.only o4 (by omega)
 replace hB := hB.trans (o4.below hB2)
 replace g0 := g0.only o4 (by omega)
 clear o4 gn
 refine Hid.mk ?_
 have hB4 := hB.size
 go_wp2_with (first | (refine ld_arr isArr32 gn4 (by rfl) ?_) | (refine wl_value rfl (exec_ktB rfl (by rfl) (by rfl)) ?_) | (refine wl_boxK (by rfl) ?_; intro v5 g5 hb5; refine Hid.out ?_))
 have hb3 : 3 ≤ v4.heap.size := by omega
 have hg04 := g0.lt
 replace hE := hE.kept hb5
 replace hB := hB.trans (hb5.mono hB.size)
 replace g0 := g0.kept hb5
 clear hb5 gn4
 refine Hid.mk ?_
 obtain ⟨b, hb⟩ : ∃ b, v4.heap.size = b := ⟨_, rfl⟩
 rw [hb] at g5 hb3 hB4 hg04 ⊢
 clear hb
 have hcv := str_back 32 w.heap.size 32 v5 32 t g0.row ht rfl
 go_wp2_with (refine wl_bs2 (s := ⟨#[97, 100, 105, 116, 32, 49]⟩) (t := mkS 32 t) (by rfl) (by rfl) ?_; intro v6 hS6 hb6 hz6; refine Hid.out ?_)
 have hst := g5.lt
 replace hE := hE.kept hb6
 replace hB := hB.trans (hb6.mono hB.size)
 replace g5 := g5.kept hb6
 clear hb6 hcv hz6
 refine Hid.mk ?_
 go_wp2_with fail
 refine (mixIn_run b C0 C0 _ _ 2 (two2 ⟨#[97, 100, 105, 116, 32, 49]⟩ (mkS 32 t)) _ hE hb3 g5 hC0 (fun u hu => hS6.touch (fun p n c hp => by cases hp; exact Nat.ne_of_gt hst) hu) (by omega) (fun i hi => by
  match i, hi with
  | 0, _ => exact (show (6 : Nat) ≤ 562949953421312 by omega)
  | 1, _ => show (mkS 32 t).size ≤ _; rw [mkS_size]; omega)).mono ?_
 rintro x v7 ⟨rfl, g7, t7⟩
 rw [mixL2] at g7
 go_wp2_with fail
 go_ret
 exact ⟨b, hB4, rfl, g7, belowT hB t7 hB4 (Nat.le_refl _)⟩
theorem beginning_run (t : Nat → Int) (w : World) (hE : Env w) (ht : Byts 32 t) :
  Calls Tryz.prog 78 #[.agg (WA .u8 32 t)] w fun e w' => ∃ b, w.heap.size ≤ b ∧ e = .returned (.pointer (some ⟨b, 0, none⟩)) ∧ KtAt w' b (begH t) begC (fun _ => 0) ∧ Below w.heap.size w w' :=
 beginning_gen t begC w hE ht (begC_b 32) (fun u v hT hS => by
  have h := hSum_run v 1 (one1 ⟨#[78, 111, 105, 115, 101, 95, 73, 75, 112, 115, 107, 50, 95, 50, 53, 53, 49, 57, 95, 67, 104, 97, 67, 104, 97, 80, 111, 108, 121, 95, 66, 76, 65, 75, 69, 50, 115]⟩) u hT hS (by omega) (by rw [join1]; exact (show (37 : Nat) ≤ 1152921504606846976 by omega))
  rw [join1] at h
  exact h)
end Go.Proofs.YthghcjepdhkfdaaGreatDoor

/-
  Own text. The document's answer for noise: the second message.
-/
namespace Go.Proofs.YthghcjepdhkfdaaGreatDoor
open Go.RowKit Go.Proofs
set_option maxRecDepth 100000
theorem zeroPair : Tryz.zeroCells41 = SC 66 paiZ := by kernel_rfl
theorem exec_fh6 {a : Act} {o : Oper} {w : World} {x : Operand} (ho : o.op = .fieldAddr 31 x 6) {b : Nat} (hx : a.eval x = .pointer (some ⟨b, 0, none⟩)) : (execOp a.eval o).run Tryz.prog w = .ok (.value (.pointer (some ⟨b, 161, none⟩))) w := by
 have h : (Instr.fieldAt 31 (.pointer (some ⟨b, 0, none⟩)) 6).run Tryz.prog w = .ok (.pointer (some ⟨b, 161, none⟩)) w := by simp [go_sem]
 unfold execOp
 simp only [ho, hx, Sem.run_bind, h, Result.andThen_ok, Sem.run_pure]
def anL (C R P S E : Nat → Int) : Nat → Nat → Int := bthL C (mkS 32 (pubF E)) (shF E R) (shF E P) S
def anH (H C R P S E : Nat → Int) : Nat → Int := bthH H C (mkS 32 (pubF E)) (shF E R) (shF E P) S
def anB (H C R P S E : Nat → Int) : ByteArray := boxT (anL C R P S E 2) non0 ⟨#[]⟩ (mkS 32 (anH H C R P S E))
def anN (C R P S E : Nat → Int) : Nat → Nat → Int := chK (macF (mkS 32 (anL C R P S E 0)) ⟨#[]⟩)
def AnswerR (H C R P S E : Nat → Int) (f ix : Int) : Value := if shZ E R = true ∧ shZ E P = true then .tuple #[.string (⟨#[2, 0, 0, 0]⟩ ++ fourT ix ++ fourT f ++ mkS 32 (pubF E) ++ anB H C R P S E), .agg (SC 66 (paiV (anN C R P S E 1) (anN C R P S E 0) ix f)), .int .i64 0] else .tuple #[.string ⟨#[]⟩, .agg (SC 66 paiZ), .int .i64 18]
end Go.Proofs.YthghcjepdhkfdaaGreatDoor

/-
  Own text. What Accept and Finish answer; four bytes and their number; the ends' secrets are one.
-/
namespace Go.Proofs.YthghcjepdhkfdaaGreatDoor
open Go.RowKit Go.Proofs
set_option maxRecDepth 100000
def acE (m : ByteArray) : Nat → Int := txt (m.extract 8 40)
def acL (O C0 : Nat → Int) (m : ByteArray) : Nat → Nat → Int := chn (chn C0 (m.extract 8 40) 0) (mkS 32 (shF O (acE m)))
def acH1 (H0 : Nat → Int) (m : ByteArray) : Nat → Int := mixH H0 (m.extract 8 40)
def acP (O H0 C0 : Nat → Int) (m : ByteArray) : ByteArray × Int := openT (acL O C0 m 1) non0 (m.extract 40 88) (mkS 32 (acH1 H0 m))
def acK (O H0 C0 : Nat → Int) (m : ByteArray) : Nat → Int := txt (acP O H0 C0 m).1
def acM (O H0 C0 : Nat → Int) (m : ByteArray) : Nat → Nat → Int := chn (acL O C0 m 0) (mkS 32 (shF O (acK O H0 C0 m)))
def acH2 (H0 : Nat → Int) (m : ByteArray) : Nat → Int := mixH (acH1 H0 m) (m.extract 40 88)
def acT (O H0 C0 : Nat → Int) (m : ByteArray) : ByteArray × Int := openT (acM O H0 C0 m 1) non0 (m.extract 88 116) (mkS 32 (acH2 H0 m))
def acH3 (H0 : Nat → Int) (m : ByteArray) : Nat → Int := mixH (acH2 H0 m) (m.extract 88 116)
def accB (n : Int) : Value := .tuple #[.agg (SC 162 hanZ), .agg (WA .u8 12 fun _ => 0), .int .i64 n]
def AcceptR (O H0 C0 : Nat → Int) (m : ByteArray) : Value :=
 if ¬ m.size = 148 then accB 10 else if ¬ m.extract 0 4 = ⟨#[1, 0, 0, 0]⟩ then accB 11 else if ¬ shZ O (acE m) = true then accB 18 else
 if ¬ (acP O H0 C0 m).2 = 0 then accB 13 else if ¬ shZ O (acK O H0 C0 m) = true then accB 18 else if ¬ (acT O H0 C0 m).2 = 0 then accB 13 else
 .tuple #[.agg (SC 162 (hanV (acH3 H0 m) (acM O H0 C0 m 0) (fun _ => 0) (acE m) (acK O H0 C0 m) 0 (numT (m.extract 4 8)))), .agg (WA .u8 12 (txt (acT O H0 C0 m).1)), .int .i64 0]
def fiE (m : ByteArray) : Nat → Int := txt (m.extract 12 44)
def fiL (C A O S : Nat → Int) (m : ByteArray) : Nat → Nat → Int := bthL C (m.extract 12 44) (shF A (fiE m)) (shF O (fiE m)) S
def fiH (H C A O S : Nat → Int) (m : ByteArray) : Nat → Int := bthH H C (m.extract 12 44) (shF A (fiE m)) (shF O (fiE m)) S
def fiT (H C A O S : Nat → Int) (m : ByteArray) : ByteArray × Int := openT (fiL C A O S m 2) non0 (m.extract 44 60) (mkS 32 (fiH H C A O S m))
def fiN (C A O S : Nat → Int) (m : ByteArray) : Nat → Nat → Int := chK (macF (mkS 32 (fiL C A O S m 0)) ⟨#[]⟩)
def finO (n : Int) : Value := .tuple #[.agg (SC 66 paiZ), .int .i64 n]
def FinishR (O H C A S : Nat → Int) (l : Int) (m : ByteArray) : Value :=
 if ¬ m.size = 92 then finO 10 else if ¬ m.extract 0 4 = ⟨#[2, 0, 0, 0]⟩ then finO 11 else if ¬ numT (m.extract 8 12) = l then finO 15 else
 if ¬ (shZ A (fiE m) = true ∧ shZ O (fiE m) = true) then finO 18 else if ¬ (fiT H C A O S m).2 = 0 then finO 13 else
 .tuple #[.agg (SC 66 (paiV (fiN C A O S m 0) (fiN C A O S m 1) l (numT (m.extract 4 8)))), .int .i64 0]
theorem kind_iff {s : ByteArray} (hs : s.size = 4) (n : UInt8) : numT s = (n.toNat : Int) ↔ s = ⟨#[n, 0, 0, 0]⟩ := by
 have h0 := txt_b s 0
 have h1 := txt_b s 1
 have h2 := txt_b s 2
 have h3 := txt_b s 3
 have hn := n.toNat_lt
 constructor
 ·intro h
  unfold numT at h
  have e0 : txt s 0 = (n.toNat : Int) := by omega
  have e1 : txt s 1 = 0 := by omega
  have e2 : txt s 2 = 0 := by omega
  have e3 : txt s 3 = 0 := by omega
  refine same_ext (by rw [hs]; rfl) (fun j hj => ?_)
  rw [hs] at hj
  match j, hj with
  | 0, _ => exact e0
  | 1, _ => exact e1
  | 2, _ => exact e2
  | 3, _ => exact e3
 ·rintro rfl
  show (n.toNat : Int) + 0 * 256 + 0 * 65536 + 0 * 16777216 = _
  omega
theorem numT_four (n : Int) (h : W32 n) : numT (fourT n) = n := by
 have e : ∀ j, j < 4 → txt (fourT n) j = digN n j := fun j hj => txt_mkS (digN_b n j) hj
 unfold numT
 rw [e 0 (by omega), e 1 (by omega), e 2 (by omega), e 3 (by omega)]
 have e0 : digN n 0 = n % 256 := by unfold digN; rw [Int.pow_zero, Int.ediv_one]
 have e1 : digN n 1 = n / 256 % 256 := rfl
 have e2 : digN n 2 = n / 65536 % 256 := rfl
 have e3 : digN n 3 = n / 16777216 % 256 := rfl
 rw [e0, e1, e2, e3]
 unfold W32 at h
 omega
end Go.Proofs.YthghcjepdhkfdaaGreatDoor

/-
  Own text. Package noise: messages.
-/
namespace Go.Proofs.YthghcjepdhkfdaaGreatDoor
open Go.RowKit Go.Proofs
set_option maxRecDepth 100000
theorem enterLow (args : Array Value) (w : World) : (callFunc 122 args).run Tryz.prog w = .ok (.enter 122 args) w := by kernel_rfl
theorem enterNum (args : Array Value) (w : World) : (callFunc 112 args).run Tryz.prog w = .ok (.enter 112 args) w := by kernel_rfl
theorem enterKey (args : Array Value) (w : World) : (callFunc 88 args).run Tryz.prog w = .ok (.enter 88 args) w := by kernel_rfl
theorem four_lit (n : UInt8) : (⟨#[n, 0, 0, 0]⟩ : ByteArray) = fourT (n.toNat : Int) := by
 have h := n.toNat_lt
 have e : numT (fourT (n.toNat : Int)) = (n.toNat : Int) := numT_four _ (by unfold W32; omega)
 exact ((kind_iff (fourT_size _) n).1 e).symm
theorem txt_part (s : ByteArray) (a b j : Nat) (h : a + j < b) (hb : b ≤ s.size) : txt (s.extract a b) j = txt s (a + j) := by
 have h1 : j < (s.extract a b).size := by rw [ByteArray.size_extract]; omega
 have h2 : a + j < s.size := by omega
 rw [← txt_get h1, ← txt_get h2]
 congr 2
 rw [ByteArray.getElem_extract h1]
theorem numA_four (m : ByteArray) (p : Nat) (h : p + 4 ≤ m.size) : numA m p 4 = numT (m.extract p (p + 4)) := by
 have e : numA m p 4 = 0 + txt m (p + 0) * 256 ^ 0 + txt m (p + 1) * 256 ^ 1 + txt m (p + 2) * 256 ^ 2 + txt m (p + 3) * 256 ^ 3 := rfl
 unfold numT
 rw [e, txt_part m p (p + 4) 0 (by omega) h, txt_part m p (p + 4) 1 (by omega) h, txt_part m p (p + 4) 2 (by omega) h, txt_part m p (p + 4) 3 (by omega) h]
 omega
theorem res_c1 {fn : Func} {q : Tmp} {ty : TypeId} (h : fn.results = #[.cell q ty]) {tmps : Array Value} {w : World} {g n : Nat} {V : Nat → Value} (hA : IsSt ty n) (hg : SAt w g ty n V) (hq : tmps.getD q undef = .pointer (some ⟨g, 0, none⟩)) :
  (results fn tmps).run Tryz.prog w = .ok (.agg (SC n V)) w := by
 obtain ⟨d, h1, h2, h3⟩ := hA
 have hq' : tmps[q]?.getD undef = .pointer (some ⟨g, 0, none⟩) := by simpa using hq
 have := run_loadVar_row (P := Tryz.prog) w g ty ty (SC n V) (0, 0) _ hg h1 (by cases d <;> first | rfl | exact h2) (by rw [SC_size]; exact h3)
 simp [results, h, hq', asAddr, this]
theorem needForm_ok (m : ByteArray) (size : Nat) (kind : Int) (w : World) (hm : m.size = size) (hk : numA m 0 4 = kind) (hs : 4 ≤ size) :
  Calls Tryz.prog 131 #[.string m, .int .i64 (size : Int), .int .u32 kind] w fun x w' => x = .returned (.tuple #[]) ∧ w' = w := by
 have h1 : ((m.size : Int) == (size : Int)) = true := by rw [hm]; simp
 have h2 : (numA m 0 4 == kind) = true := by rw [hk]; simp
 go_enter Tryz.func131, Tryz.ntmps131
 go_wp2_with fail
 refine (need_ok 10 _).mono ?_
 rintro x v1 ⟨rfl, rfl⟩
 go_wp2_with fail
 refine (numberAt_run m 0 _ (by omega) (by omega)).mono ?_
 rintro x v2 ⟨rfl, rfl⟩
 go_wp2_with fail
 refine (need_ok 11 _).mono ?_
 rintro x v3 ⟨rfl, rfl⟩
 go_wp2_with fail
 exact bodyPost_end (results_none rfl _ _ _) rfl ⟨rfl, rfl⟩
theorem needForm_no (m : ByteArray) (size : Nat) (kind : Int) (w : World) (hm : ¬ (m.size = size ∧ numA m 0 4 = kind)) (hs : 4 ≤ size) :
  Calls Tryz.prog 131 #[.string m, .int .i64 (size : Int), .int .u32 kind] w fun x w' => x = gup (if m.size = size then 11 else 10) ∧ w' = w := by
 by_cases hz : m.size = size
 ·rw [if_pos hz]
  have h1 : ((m.size : Int) == (size : Int)) = true := by rw [hz]; simp
  have h2 : (numA m 0 4 == kind) = false := by simpa using fun h => hm ⟨hz, h⟩
  clear hm
  go_enter Tryz.func131, Tryz.ntmps131
  go_wp2_with fail
  refine (need_ok 10 _).mono ?_
  rintro x v1 ⟨rfl, rfl⟩
  go_wp2_with fail
  refine (numberAt_run m 0 _ (by omega) (by omega)).mono ?_
  rintro x v2 ⟨rfl, rfl⟩
  go_wp2_with fail
  refine (need_no 11 _).mono ?_
  rintro x v3 ⟨rfl, rfl⟩
  exact ⟨rfl, rfl, rfl⟩
 ·rw [if_neg hz]
  have h1 : ((m.size : Int) == (size : Int)) = false := by simp; omega
  clear hm
  go_enter Tryz.func131, Tryz.ntmps131
  go_wp2_with fail
  refine (need_no 10 _).mono ?_
  rintro x v1 ⟨rfl, rfl⟩
  exact ⟨rfl, rfl, rfl⟩
def iniV (ix : Int) (E : Nat → Int) (k s : ByteArray) (i : Nat) : Value := if i < 1 then .int .u32 ix else if i < 33 then .int .u8 (E (i - 1)) else if i < 34 then .string k else .string s
theorem iniV_one (ix : Int) (E : Nat → Int) (k s : ByteArray) (i : Nat) : (iniV ix E k s i).oneCell' = true := by unfold iniV; (repeat' split) <;> rfl
def iniZ : Nat → Value := iniV 0 (fun _ => 0) ⟨#[]⟩ ⟨#[]⟩
theorem is_ini : IsSt 118 35 := ⟨_, Tryz.underlying118, rfl, by kernel_rfl⟩
theorem run_iniB (ix : Int) (E : Nat → Int) (k s : ByteArray) (w : World) : (Instr.build 118 #[(0, .int .u32 ix), (1, .agg (WA .u8 32 E)), (2, .string k), (3, .string s)]).run Tryz.prog w = .ok (.agg (SC 35 (iniV ix E k s))) w := by kernel_rfl
theorem exec_iniB {a : Act} {o : Oper} {w : World} {x0 x1 x2 x3 : Operand} (ho : o.op = .build 118 #[(0, x0), (1, x1), (2, x2), (3, x3)]) {ix : Int} {E : Nat → Int} {k s : ByteArray} (h0 : a.eval x0 = .int .u32 ix) (h1 : a.eval x1 = .agg (WA .u8 32 E)) (h2 : a.eval x2 = .string k) (h3 : a.eval x3 = .string s) : (execOp a.eval o).run Tryz.prog w = .ok (.value (.agg (SC 35 (iniV ix E k s)))) w := by
 have h := run_iniB ix E k s w
 unfold execOp
 simp only [ho, List.map_toArray, List.map_cons, List.map_nil, h0, h1, h2, h3, Sem.run_bind, h, Result.andThen_ok, Sem.run_pure]
def resV (ix ot : Int) (E : Nat → Int) (k : ByteArray) (i : Nat) : Value := if i < 1 then .int .u32 ix else if i < 2 then .int .u32 ot else if i < 34 then .int .u8 (E (i - 2)) else .string k
theorem resV_one (ix ot : Int) (E : Nat → Int) (k : ByteArray) (i : Nat) : (resV ix ot E k i).oneCell' = true := by unfold resV; (repeat' split) <;> rfl
def resZ : Nat → Value := resV 0 0 (fun _ => 0) ⟨#[]⟩
theorem is_res : IsSt 129 35 := ⟨_, Tryz.underlying129, rfl, by kernel_rfl⟩
theorem run_resB (ix ot : Int) (E : Nat → Int) (k : ByteArray) (w : World) : (Instr.build 129 #[(0, .int .u32 ix), (1, .int .u32 ot), (2, .agg (WA .u8 32 E)), (3, .string k)]).run Tryz.prog w = .ok (.agg (SC 35 (resV ix ot E k))) w := by kernel_rfl
theorem exec_resB {a : Act} {o : Oper} {w : World} {x0 x1 x2 x3 : Operand} (ho : o.op = .build 129 #[(0, x0), (1, x1), (2, x2), (3, x3)]) {ix ot : Int} {E : Nat → Int} {k : ByteArray} (h0 : a.eval x0 = .int .u32 ix) (h1 : a.eval x1 = .int .u32 ot) (h2 : a.eval x2 = .agg (WA .u8 32 E)) (h3 : a.eval x3 = .string k) : (execOp a.eval o).run Tryz.prog w = .ok (.value (.agg (SC 35 (resV ix ot E k)))) w := by
 have h := run_resB ix ot E k w
 unfold execOp
 simp only [ho, List.map_toArray, List.map_cons, List.map_nil, h0, h1, h2, h3, Sem.run_bind, h, Result.andThen_ok, Sem.run_pure]
theorem ini_e {w : World} {b : Nat} {ix : Int} {E : Nat → Int} {k s : ByteArray} (h : SAt w b 118 35 (iniV ix E k s)) : w.rangeAt b 1 (nums .u8 32 E) := h.range (by omega) (fun j hj => by unfold iniV; rw [if_neg (by omega), if_pos (by omega), Nat.add_sub_cancel_left])
theorem res_e {w : World} {b : Nat} {ix ot : Int} {E : Nat → Int} {k : ByteArray} (h : SAt w b 129 35 (resV ix ot E k)) : w.rangeAt b 2 (nums .u8 32 E) := h.range (by omega) (fun j hj => by unfold resV; rw [if_neg (by omega), if_neg (by omega), if_pos (by omega), Nat.add_sub_cancel_left])
theorem run_fi (b k : Nat) (w : World) : k < 4 → (Instr.fieldAt 118 (.pointer (some ⟨b, 0, none⟩)) k).run Tryz.prog w = .ok (.pointer (some ⟨b, [0, 1, 33, 34].getD k 0, none⟩)) w := by
 intro hk
 match k, hk with
 | 0, _ => simp [go_sem]
 | 1, _ => simp [go_sem]
 | 2, _ => simp [go_sem]
 | 3, _ => simp [go_sem]
theorem exec_fi {a : Act} {o : Oper} {w : World} {x : Operand} {k : Nat} (ho : o.op = .fieldAddr 118 x k) {b : Nat} (hx : a.eval x = .pointer (some ⟨b, 0, none⟩)) (hk : k < 4) : (execOp a.eval o).run Tryz.prog w = .ok (.value (.pointer (some ⟨b, [0, 1, 33, 34].getD k 0, none⟩))) w := by
 have h := run_fi b k w hk
 unfold execOp
 simp only [ho, hx, Sem.run_bind, h, Result.andThen_ok, Sem.run_pure]
theorem run_fr (b k : Nat) (w : World) : k < 4 → (Instr.fieldAt 129 (.pointer (some ⟨b, 0, none⟩)) k).run Tryz.prog w = .ok (.pointer (some ⟨b, [0, 1, 2, 34].getD k 0, none⟩)) w := by
 intro hk
 match k, hk with
 | 0, _ => simp [go_sem]
 | 1, _ => simp [go_sem]
 | 2, _ => simp [go_sem]
 | 3, _ => simp [go_sem]
theorem exec_fr {a : Act} {o : Oper} {w : World} {x : Operand} {k : Nat} (ho : o.op = .fieldAddr 129 x k) {b : Nat} (hx : a.eval x = .pointer (some ⟨b, 0, none⟩)) (hk : k < 4) : (execOp a.eval o).run Tryz.prog w = .ok (.value (.pointer (some ⟨b, [0, 1, 2, 34].getD k 0, none⟩))) w := by
 have h := run_fr b k w hk
 unfold execOp
 simp only [ho, hx, Sem.run_bind, h, Result.andThen_ok, Sem.run_pure]
set_option linter.unusedSimpArgs false in
set_option maxHeartbeats 4000000 in
set_option maxRecDepth 100000 in
theorem ini_text (ix : Int) (E : Nat → Int) (k s : ByteArray) (he : Byts 32 E) (hk : k.size ≤ 1000) (hs : s.size ≤ 1000) (w : World) :
  Calls Tryz.prog 83 #[.agg (SC 35 (iniV ix E k s))] w fun x w' => x = .returned (.string (⟨#[1, 0, 0, 0]⟩ ++ fourT ix ++ mkS 32 E ++ k ++ s)) ∧ Below w.heap.size w w' := by
 have g0 : SAt (w.alloc (.cells (SC 35 (iniV ix E k s)) 118)) w.heap.size 118 35 (iniV ix E k s) := heap_alloc_new w _
 have hB : Below w.heap.size w (w.alloc (.cells (SC 35 (iniV ix E k s)) 118)) := (Below.refl _ w).alloc (Nat.le_refl _) _
 have HL1 : Hid ((fourT 1).size + (fourT ix).size ≤ 9223372036854775807) := Hid.mk (by simp only [ByteArray.size_append, fourT_size, mkS_size]; omega)
 have HL2 : Hid ((fourT 1 ++ fourT ix).size + (mkS 32 E).size ≤ 9223372036854775807) := Hid.mk (by simp only [ByteArray.size_append, fourT_size, mkS_size]; omega)
 have HL3 : Hid ((fourT 1 ++ fourT ix ++ mkS 32 E).size + (k).size ≤ 9223372036854775807) := Hid.mk (by simp only [ByteArray.size_append, fourT_size, mkS_size]; omega)
 have HL4 : Hid ((fourT 1 ++ fourT ix ++ mkS 32 E ++ k).size + (s).size ≤ 9223372036854775807) := Hid.mk (by simp only [ByteArray.size_append, fourT_size, mkS_size]; omega)
 have HE := Hid.mk he
 go_enter Tryz.func83, Tryz.ntmps83
 go_wp2_with fail
 refine wp_gen (fun v => SAt v w.heap.size 118 35 (iniV ix E k s) ∧ Below w.heap.size w v) ⟨g0, hB⟩ ?_
 clear g0 hB
 rintro v0 ⟨g0, hB⟩
 have HG : Hid (∀ u, Below v0.heap.size v0 u → SAt u w.heap.size 118 35 (iniV ix E k s)) := Hid.mk (fun u hu => g0.kept hu)
 refine wp_region3 (Below v0.heap.size v0) v0.heap.size
   ([] : List (Nat × Cont))
   [kv (.string (fourT 1)), kv (.pointer (some ⟨w.heap.size, 0, none⟩)), kv (.int .u32 ix), kv (.string (fourT ix)), kv (.string (fourT 1 ++ fourT ix)), kv (.pointer (some ⟨w.heap.size, 1, none⟩)), kv (.slice (some ⟨w.heap.size, 1, none⟩) 32 32), kv (.string (mkS 32 E)), kv (.string (fourT 1 ++ fourT ix ++ mkS 32 E)), kv (.pointer (some ⟨w.heap.size, 33, none⟩)), kv (.string k), kv (.string (fourT 1 ++ fourT ix ++ mkS 32 E ++ k)), kv (.pointer (some ⟨w.heap.size, 34, none⟩)), kv (.string s), kv (.string (fourT 1 ++ fourT ix ++ mkS 32 E ++ k ++ s)), kv (.string (fourT 1 ++ fourT ix ++ mkS 32 E ++ k ++ s))]
   [.none, .none, .none, .none, .none, .none, .none, .none, .none, .none, .none, .none, .none, .none, .none, .none]
   [some 3, some 4, some 5, some 6, some 7, some 8, some 9, some 10, some 11, some 12, some 13, some 14, some 15, some 16, some 17, some 2]
   [(1, .pointer (some ⟨w.heap.size, 0, none⟩))]
   [[], [], [.slot 1], [.slot 2], [.slot 0, .slot 3], [], [.slot 5], [.slot 6], [.slot 4, .slot 7], [], [.slot 9], [.slot 8, .slot 10], [], [.slot 12], [.slot 11, .slot 13], [.slot 14]]
   [.slot 15] [3, 4, 5, 6, 7, 8, 9, 10, 11, 12, 13, 14, 15, 16, 17, 2]
   rfl (by kernel_rfl) ⟨rfl, trivial⟩ (Below.refl _ v0).drew (Nat.le_refl _) trivial trivial (below_G (Nat.le_refl _) trivial)
   ⟨
    (fun Q aq ww own hS hBg fr kn => .inl ⟨trivial, fun K hK => stepc enterLow rfl (args1 rfl) (lowest4_run 1 ww) (fun w' hb => hK _ _ ⟨touch_below hb, rfl⟩)⟩),
    (fun Q aq ww own hS hBg fr kn => .inl ⟨trivial, fun K hK => wp_value (exec_fi (k := 0) rfl fr.1 (by decide)) (hK _ _ ⟨Touch.refl _ _, rfl⟩)⟩),
    (fun Q aq ww own hS hBg fr kn => .inl ⟨trivial, fun K hK => wp_value (exec_ld rfl kn.1 (run_load32 ((HG.out ww hS).at 0 (by omega)))) (hK _ _ ⟨Touch.refl _ _, rfl⟩)⟩),
    (fun Q aq ww own hS hBg fr kn => .inl ⟨trivial, fun K hK => stepc enterLow rfl (args1 kn.1) (lowest4_run ix ww) (fun w' hb => hK _ _ ⟨touch_below hb, rfl⟩)⟩),
    (fun Q aq ww own hS hBg fr kn => .inl ⟨trivial, fun K hK => wp_value (exec_catS rfl kn.1 kn.2.1 HL1.out) (hK _ _ ⟨Touch.refl _ _, rfl⟩)⟩),
    (fun Q aq ww own hS hBg fr kn => .inl ⟨trivial, fun K hK => wp_value (exec_fi (k := 1) rfl fr.1 (by decide)) (hK _ _ ⟨Touch.refl _ _, rfl⟩)⟩),
    (fun Q aq ww own hS hBg fr kn => .inl ⟨trivial, fun K hK => wp_value (exec_sl rfl kn.1 (sl32o w.heap.size 1 ww)) (hK _ _ ⟨Touch.refl _ _, rfl⟩)⟩),
    (fun Q aq ww own hS hBg fr kn => .inl ⟨trivial, fun K hK => wp_value (exec_conv rfl kn.1 (str_cells w.heap.size 1 32 ww E HE.out (ini_e (HG.out ww hS)))) (hK _ _ ⟨Touch.refl _ _, rfl⟩)⟩),
    (fun Q aq ww own hS hBg fr kn => .inl ⟨trivial, fun K hK => wp_value (exec_catS rfl kn.1 kn.2.1 HL2.out) (hK _ _ ⟨Touch.refl _ _, rfl⟩)⟩),
    (fun Q aq ww own hS hBg fr kn => .inl ⟨trivial, fun K hK => wp_value (exec_fi (k := 2) rfl fr.1 (by decide)) (hK _ _ ⟨Touch.refl _ _, rfl⟩)⟩),
    (fun Q aq ww own hS hBg fr kn => .inl ⟨trivial, fun K hK => wp_value (exec_ld rfl kn.1 (load_str ((HG.out ww hS).at 33 (by omega)))) (hK _ _ ⟨Touch.refl _ _, rfl⟩)⟩),
    (fun Q aq ww own hS hBg fr kn => .inl ⟨trivial, fun K hK => wp_value (exec_catS rfl kn.1 kn.2.1 HL3.out) (hK _ _ ⟨Touch.refl _ _, rfl⟩)⟩),
    (fun Q aq ww own hS hBg fr kn => .inl ⟨trivial, fun K hK => wp_value (exec_fi (k := 3) rfl fr.1 (by decide)) (hK _ _ ⟨Touch.refl _ _, rfl⟩)⟩),
    (fun Q aq ww own hS hBg fr kn => .inl ⟨trivial, fun K hK => wp_value (exec_ld rfl kn.1 (load_str ((HG.out ww hS).at 34 (by omega)))) (hK _ _ ⟨Touch.refl _ _, rfl⟩)⟩),
    (fun Q aq ww own hS hBg fr kn => .inl ⟨trivial, fun K hK => wp_value (exec_catS rfl kn.1 kn.2.1 HL4.out) (hK _ _ ⟨Touch.refl _ _, rfl⟩)⟩),
    (fun Q aq ww own hS hBg fr kn => .inl ⟨trivial, fun K hK => wp_value (exec_assign rfl kn.1) (hK _ _ ⟨Touch.refl _ _, rfl⟩)⟩),
    trivial⟩ ?_
 intro vs own v1 hB1 hs1 kn inj
 clear inj hs1 HG
 have e2 : vs 2 = _ := kn.1
 clear kn
 simp only [putAll, Act.put, List.setIfInBounds_toArray, List.set_cons_zero, List.set_cons_succ, e2]
 go_wp2_with fail
 go_ret
 exact ⟨by rw [four_lit]; rfl, hB.trans (hB1.mono hB.size)⟩
set_option linter.unusedSimpArgs false in
set_option maxHeartbeats 4000000 in
set_option maxRecDepth 100000 in
theorem res_text (ix ot : Int) (E : Nat → Int) (k : ByteArray) (he : Byts 32 E) (hk : k.size ≤ 1000) (w : World) :
  Calls Tryz.prog 95 #[.agg (SC 35 (resV ix ot E k))] w fun x w' => x = .returned (.string (⟨#[2, 0, 0, 0]⟩ ++ fourT ix ++ fourT ot ++ mkS 32 E ++ k)) ∧ Below w.heap.size w w' := by
 have g0 : SAt (w.alloc (.cells (SC 35 (resV ix ot E k)) 129)) w.heap.size 129 35 (resV ix ot E k) := heap_alloc_new w _
 have hB : Below w.heap.size w (w.alloc (.cells (SC 35 (resV ix ot E k)) 129)) := (Below.refl _ w).alloc (Nat.le_refl _) _
 have HL1 : Hid ((fourT 2).size + (fourT ix).size ≤ 9223372036854775807) := Hid.mk (by simp only [ByteArray.size_append, fourT_size, mkS_size]; omega)
 have HL2 : Hid ((fourT 2 ++ fourT ix).size + (fourT ot).size ≤ 9223372036854775807) := Hid.mk (by simp only [ByteArray.size_append, fourT_size, mkS_size]; omega)
 have HL3 : Hid ((fourT 2 ++ fourT ix ++ fourT ot).size + (mkS 32 E).size ≤ 9223372036854775807) := Hid.mk (by simp only [ByteArray.size_append, fourT_size, mkS_size]; omega)
 have HL4 : Hid ((fourT 2 ++ fourT ix ++ fourT ot ++ mkS 32 E).size + (k).size ≤ 9223372036854775807) := Hid.mk (by simp only [ByteArray.size_append, fourT_size, mkS_size]; omega)
 have HE := Hid.mk he
 go_enter Tryz.func95, Tryz.ntmps95
 go_wp2_with fail
 refine wp_gen (fun v => SAt v w.heap.size 129 35 (resV ix ot E k) ∧ Below w.heap.size w v) ⟨g0, hB⟩ ?_
 clear g0 hB
 rintro v0 ⟨g0, hB⟩
 have HG : Hid (∀ u, Below v0.heap.size v0 u → SAt u w.heap.size 129 35 (resV ix ot E k)) := Hid.mk (fun u hu => g0.kept hu)
 refine wp_region3 (Below v0.heap.size v0) v0.heap.size
   ([] : List (Nat × Cont))
   [kv (.string (fourT 2)), kv (.pointer (some ⟨w.heap.size, 0, none⟩)), kv (.int .u32 ix), kv (.string (fourT ix)), kv (.string (fourT 2 ++ fourT ix)), kv (.pointer (some ⟨w.heap.size, 1, none⟩)), kv (.int .u32 ot), kv (.string (fourT ot)), kv (.string (fourT 2 ++ fourT ix ++ fourT ot)), kv (.pointer (some ⟨w.heap.size, 2, none⟩)), kv (.slice (some ⟨w.heap.size, 2, none⟩) 32 32), kv (.string (mkS 32 E)), kv (.string (fourT 2 ++ fourT ix ++ fourT ot ++ mkS 32 E)), kv (.pointer (some ⟨w.heap.size, 34, none⟩)), kv (.string k), kv (.string (fourT 2 ++ fourT ix ++ fourT ot ++ mkS 32 E ++ k)), kv (.string (fourT 2 ++ fourT ix ++ fourT ot ++ mkS 32 E ++ k))]
   [.none, .none, .none, .none, .none, .none, .none, .none, .none, .none, .none, .none, .none, .none, .none, .none, .none]
   [some 3, some 4, some 5, some 6, some 7, some 8, some 9, some 10, some 11, some 12, some 13, some 14, some 15, some 16, some 17, some 18, some 2]
   [(1, .pointer (some ⟨w.heap.size, 0, none⟩))]
   [[], [], [.slot 1], [.slot 2], [.slot 0, .slot 3], [], [.slot 5], [.slot 6], [.slot 4, .slot 7], [], [.slot 9], [.slot 10], [.slot 8, .slot 11], [], [.slot 13], [.slot 12, .slot 14], [.slot 15]]
   [.slot 16] [3, 4, 5, 6, 7, 8, 9, 10, 11, 12, 13, 14, 15, 16, 17, 18, 2]
   rfl (by kernel_rfl) ⟨rfl, trivial⟩ (Below.refl _ v0).drew (Nat.le_refl _) trivial trivial (below_G (Nat.le_refl _) trivial)
   ⟨
    (fun Q aq ww own hS hBg fr kn => .inl ⟨trivial, fun K hK => stepc enterLow rfl (args1 rfl) (lowest4_run 2 ww) (fun w' hb => hK _ _ ⟨touch_below hb, rfl⟩)⟩),
    (fun Q aq ww own hS hBg fr kn => .inl ⟨trivial, fun K hK => wp_value (exec_fr (k := 0) rfl fr.1 (by decide)) (hK _ _ ⟨Touch.refl _ _, rfl⟩)⟩),
    (fun Q aq ww own hS hBg fr kn => .inl ⟨trivial, fun K hK => wp_value (exec_ld rfl kn.1 (run_load32 ((HG.out ww hS).at 0 (by omega)))) (hK _ _ ⟨Touch.refl _ _, rfl⟩)⟩),
    (fun Q aq ww own hS hBg fr kn => .inl ⟨trivial, fun K hK => stepc enterLow rfl (args1 kn.1) (lowest4_run ix ww) (fun w' hb => hK _ _ ⟨touch_below hb, rfl⟩)⟩),
    (fun Q aq ww own hS hBg fr kn => .inl ⟨trivial, fun K hK => wp_value (exec_catS rfl kn.1 kn.2.1 HL1.out) (hK _ _ ⟨Touch.refl _ _, rfl⟩)⟩),
    (fun Q aq ww own hS hBg fr kn => .inl ⟨trivial, fun K hK => wp_value (exec_fr (k := 1) rfl fr.1 (by decide)) (hK _ _ ⟨Touch.refl _ _, rfl⟩)⟩),
    (fun Q aq ww own hS hBg fr kn => .inl ⟨trivial, fun K hK => wp_value (exec_ld rfl kn.1 (run_load32 ((HG.out ww hS).at 1 (by omega)))) (hK _ _ ⟨Touch.refl _ _, rfl⟩)⟩),
    (fun Q aq ww own hS hBg fr kn => .inl ⟨trivial, fun K hK => stepc enterLow rfl (args1 kn.1) (lowest4_run ot ww) (fun w' hb => hK _ _ ⟨touch_below hb, rfl⟩)⟩),
    (fun Q aq ww own hS hBg fr kn => .inl ⟨trivial, fun K hK => wp_value (exec_catS rfl kn.1 kn.2.1 HL2.out) (hK _ _ ⟨Touch.refl _ _, rfl⟩)⟩),
    (fun Q aq ww own hS hBg fr kn => .inl ⟨trivial, fun K hK => wp_value (exec_fr (k := 2) rfl fr.1 (by decide)) (hK _ _ ⟨Touch.refl _ _, rfl⟩)⟩),
    (fun Q aq ww own hS hBg fr kn => .inl ⟨trivial, fun K hK => wp_value (exec_sl rfl kn.1 (sl32o w.heap.size 2 ww)) (hK _ _ ⟨Touch.refl _ _, rfl⟩)⟩),
    (fun Q aq ww own hS hBg fr kn => .inl ⟨trivial, fun K hK => wp_value (exec_conv rfl kn.1 (str_cells w.heap.size 2 32 ww E HE.out (res_e (HG.out ww hS)))) (hK _ _ ⟨Touch.refl _ _, rfl⟩)⟩),
    (fun Q aq ww own hS hBg fr kn => .inl ⟨trivial, fun K hK => wp_value (exec_catS rfl kn.1 kn.2.1 HL3.out) (hK _ _ ⟨Touch.refl _ _, rfl⟩)⟩),
    (fun Q aq ww own hS hBg fr kn => .inl ⟨trivial, fun K hK => wp_value (exec_fr (k := 3) rfl fr.1 (by decide)) (hK _ _ ⟨Touch.refl _ _, rfl⟩)⟩),
    (fun Q aq ww own hS hBg fr kn => .inl ⟨trivial, fun K hK => wp_value (exec_ld rfl kn.1 (load_str ((HG.out ww hS).at 34 (by omega)))) (hK _ _ ⟨Touch.refl _ _, rfl⟩)⟩),
    (fun Q aq ww own hS hBg fr kn => .inl ⟨trivial, fun K hK => wp_value (exec_catS rfl kn.1 kn.2.1 HL4.out) (hK _ _ ⟨Touch.refl _ _, rfl⟩)⟩),
    (fun Q aq ww own hS hBg fr kn => .inl ⟨trivial, fun K hK => wp_value (exec_assign rfl kn.1) (hK _ _ ⟨Touch.refl _ _, rfl⟩)⟩),
    trivial⟩ ?_
 intro vs own v1 hB1 hs1 kn inj
 clear inj hs1 HG
 have e2 : vs 2 = _ := kn.1
 clear kn
 simp only [putAll, Act.put, List.setIfInBounds_toArray, List.set_cons_zero, List.set_cons_succ, e2]
 go_wp2_with fail
 go_ret
 exact ⟨by rw [four_lit]; rfl, hB.trans (hB1.mono hB.size)⟩
set_option maxHeartbeats 4000000 in
set_option maxRecDepth 100000 in
theorem iniOf_ok (m : ByteArray) (w : World) (hm : m.size = 148) (hk : numA m 0 4 = 1) :
  Calls Tryz.prog 87 #[.string m] w fun x w' => x = .returned (.agg (SC 35 (iniV (numA m 4 4) (txt (m.extract 8 40)) (m.extract 40 88) (m.extract 88 116)))) ∧ Below w.heap.size w w' := by
 have g0 : SAt (w.alloc (.cells (SC 35 (iniZ)) 118)) w.heap.size 118 35 (iniZ) := heap_alloc_new w _
 have hB : Below w.heap.size w (w.alloc (.cells (SC 35 (iniZ)) 118)) := (Below.refl _ w).alloc (Nat.le_refl _) _
 have HM := Hid.mk hm
 have HS40 : Hid (∀ u : World, (Instr.sliceAt 9 (.string m) (some (.int .i64 40)) (some (.int .i64 88)) none).run Tryz.prog u = .ok (.string (m.extract 40 88)) u) := Hid.mk (fun u => strB m 40 88 u (by omega) (by have := HM.out; omega))
 have HS88 : Hid (∀ u : World, (Instr.sliceAt 9 (.string m) (some (.int .i64 88)) (some (.int .i64 116)) none).run Tryz.prog u = .ok (.string (m.extract 88 116)) u) := Hid.mk (fun u => strB m 88 116 u (by omega) (by have := HM.out; omega))
 go_enter Tryz.func87, Tryz.ntmps87
 go_wp2_with fail
 refine (needForm_ok m 148 1 _ hm hk (by omega)).mono ?_
 rintro x v1 ⟨rfl, rfl⟩
 go_wp2_with fail
 clear hm hk
 refine wp_gen (fun v => SAt v w.heap.size 118 35 (iniZ) ∧ Below w.heap.size w v) ⟨g0, hB⟩ ?_
 clear g0 hB
 rintro v0 ⟨g0, hB⟩
 refine wp_region3 (Below w.heap.size w) v0.heap.size
   [(w.heap.size, once (SC 35 (iniZ)) 118 9 (SC 35 (iniV (numA m 4 4) (txt (m.extract 8 40)) (m.extract 40 88) (m.extract 88 116))))]
   [kv (.string m), kv (.int .u32 (numA m 4 4)), kv (.string m), kv (.agg (WA .u8 32 (txt (m.extract 8 40)))), kv (.string m), kv (.string (m.extract 40 88)), kv (.string m), kv (.string (m.extract 88 116)), kv (.agg (SC 35 (iniV (numA m 4 4) (txt (m.extract 8 40)) (m.extract 40 88) (m.extract 88 116)))), .val fun _ => True]
   [.none, .none, .none, .none, .none, .none, .none, .none, .none, .base 0 1]
   [some 5, some 6, some 7, some 8, some 9, some 10, some 11, some 12, some 13, none]
   [(0, .string m), (2, .pointer (some ⟨w.heap.size, 0, none⟩))]
   [[], [.slot 0], [], [.slot 2], [], [.slot 4], [], [.slot 6], [.slot 1, .slot 3, .slot 5, .slot 7], [.slot 8, .base 0 0]]
   [.base 0 1] [5, 6, 7, 8, 9, 10, 11, 12, 13]
   rfl (by kernel_rfl) ⟨rfl, rfl, trivial⟩ (Below.drew hB) (Nat.le_refl _) ⟨⟨g0.lt, obIn g0⟩, trivial⟩ ⟨trivial, trivial⟩ (below_G hB.size ⟨by omega, trivial⟩)
   ⟨
    (fun Q aq ww own hS hBg fr kn => .inl ⟨trivial, fun K hK => wp_value (exec_move rfl fr.1) (hK _ _ ⟨Touch.refl _ _, rfl⟩)⟩),
    (fun Q aq ww own hS hBg fr kn => .inl ⟨trivial, fun K hK => stepc enterNum rfl (args2 kn.1 rfl) ((numberAt_run m 4 ww (by have := HM.out; omega) (by omega)).mono (fun _ _ h => ⟨h.1, h.2 ▸ Below.refl _ _⟩)) (fun w' hb => hK _ _ ⟨touch_below hb, rfl⟩)⟩),
    (fun Q aq ww own hS hBg fr kn => .inl ⟨trivial, fun K hK => wp_value (exec_move rfl fr.1) (hK _ _ ⟨Touch.refl _ _, rfl⟩)⟩),
    (fun Q aq ww own hS hBg fr kn => .inl ⟨trivial, fun K hK => stepc enterKey rfl (args2 kn.1 rfl) (keyAt_run m 8 ww (by have := HM.out; omega) (by omega)) (fun w' hb => hK _ _ ⟨touch_below hb, rfl⟩)⟩),
    (fun Q aq ww own hS hBg fr kn => .inl ⟨trivial, fun K hK => wp_value (exec_move rfl fr.1) (hK _ _ ⟨Touch.refl _ _, rfl⟩)⟩),
    (fun Q aq ww own hS hBg fr kn => .inl ⟨trivial, fun K hK => wp_value (exec_slB (v := .string m) (u := .int .i64 40) (r := .int .i64 88) rfl kn.1 rfl rfl (HS40.out ww)) (hK _ _ ⟨Touch.refl _ _, rfl⟩)⟩),
    (fun Q aq ww own hS hBg fr kn => .inl ⟨trivial, fun K hK => wp_value (exec_move rfl fr.1) (hK _ _ ⟨Touch.refl _ _, rfl⟩)⟩),
    (fun Q aq ww own hS hBg fr kn => .inl ⟨trivial, fun K hK => wp_value (exec_slB (v := .string m) (u := .int .i64 88) (r := .int .i64 116) rfl kn.1 rfl rfl (HS88.out ww)) (hK _ _ ⟨Touch.refl _ _, rfl⟩)⟩),
    (fun Q aq ww own hS hBg fr kn => .inl ⟨trivial, fun K hK => wp_value (exec_iniB rfl kn.1 kn.2.1 kn.2.2.1 kn.2.2.2.1) (hK _ _ ⟨Touch.refl _ _, rfl⟩)⟩),
    (fun Q aq ww own hS hBg fr kn => .inl ⟨trivial, fun K hK => act_st7 rfl is_ini (iniV_one _ _ _ _) fr.2.1 kn.1 (obAt kn.2.1) (fun w2 hg ho => hK _ _ ⟨⟨touch_only ho, obIn hg⟩, trivial⟩)⟩),
    trivial⟩ ?_
 intro vs own v2 hB1 hs1 kn inj
 clear inj hs1 g0 hB
 have g0 : SAt v2 w.heap.size 118 35 (iniV (numA m 4 4) (txt (m.extract 8 40)) (m.extract 40 88) (m.extract 88 116)) := obAt kn.1
 clear kn
 simp only [putAll, Act.put, List.setIfInBounds_toArray, List.set_cons_zero, List.set_cons_succ]
 go_wp2_with fail
 exact bodyPost_ret (res_c1 Tryz.results87 is_ini g0 (by rfl)) rfl ⟨rfl, hB1⟩
set_option maxHeartbeats 1600000 in
theorem iniOf_no (m : ByteArray) (w : World) (hm : ¬ (m.size = 148 ∧ numA m 0 4 = 1)) :
  Calls Tryz.prog 87 #[.string m] w fun x w' => x = gup (if m.size = 148 then 11 else 10) ∧ Below w.heap.size w w' := by
 have g0 : SAt (w.alloc (.cells (SC 35 (iniZ)) 118)) w.heap.size 118 35 (iniZ) := heap_alloc_new w _
 have hB : Below w.heap.size w (w.alloc (.cells (SC 35 (iniZ)) 118)) := (Below.refl _ w).alloc (Nat.le_refl _) _
 go_enter Tryz.func87, Tryz.ntmps87
 go_wp2_with fail
 refine (needForm_no m 148 1 _ hm (by omega)).mono ?_
 rintro x v1 ⟨rfl, rfl⟩
 exact ⟨rfl, rfl, hB⟩
set_option maxHeartbeats 4000000 in
set_option maxRecDepth 100000 in
theorem resOf_ok (m : ByteArray) (w : World) (hm : m.size = 92) (hk : numA m 0 4 = 2) :
  Calls Tryz.prog 97 #[.string m] w fun x w' => x = .returned (.agg (SC 35 (resV (numA m 4 4) (numA m 8 4) (txt (m.extract 12 44)) (m.extract 44 60)))) ∧ Below w.heap.size w w' := by
 have g0 : SAt (w.alloc (.cells (SC 35 (resZ)) 129)) w.heap.size 129 35 (resZ) := heap_alloc_new w _
 have hB : Below w.heap.size w (w.alloc (.cells (SC 35 (resZ)) 129)) := (Below.refl _ w).alloc (Nat.le_refl _) _
 have HM := Hid.mk hm
 have HS44 : Hid (∀ u : World, (Instr.sliceAt 9 (.string m) (some (.int .i64 44)) (some (.int .i64 60)) none).run Tryz.prog u = .ok (.string (m.extract 44 60)) u) := Hid.mk (fun u => strB m 44 60 u (by omega) (by have := HM.out; omega))
 go_enter Tryz.func97, Tryz.ntmps97
 go_wp2_with fail
 refine (needForm_ok m 92 2 _ hm hk (by omega)).mono ?_
 rintro x v1 ⟨rfl, rfl⟩
 go_wp2_with fail
 clear hm hk
 refine wp_gen (fun v => SAt v w.heap.size 129 35 (resZ) ∧ Below w.heap.size w v) ⟨g0, hB⟩ ?_
 clear g0 hB
 rintro v0 ⟨g0, hB⟩
 refine wp_region3 (Below w.heap.size w) v0.heap.size
   [(w.heap.size, once (SC 35 (resZ)) 129 9 (SC 35 (resV (numA m 4 4) (numA m 8 4) (txt (m.extract 12 44)) (m.extract 44 60))))]
   [kv (.string m), kv (.int .u32 (numA m 4 4)), kv (.string m), kv (.int .u32 (numA m 8 4)), kv (.string m), kv (.agg (WA .u8 32 (txt (m.extract 12 44)))), kv (.string m), kv (.string (m.extract 44 60)), kv (.agg (SC 35 (resV (numA m 4 4) (numA m 8 4) (txt (m.extract 12 44)) (m.extract 44 60)))), .val fun _ => True]
   [.none, .none, .none, .none, .none, .none, .none, .none, .none, .base 0 1]
   [some 5, some 6, some 7, some 8, some 9, some 10, some 11, some 12, some 13, none]
   [(0, .string m), (2, .pointer (some ⟨w.heap.size, 0, none⟩))]
   [[], [.slot 0], [], [.slot 2], [], [.slot 4], [], [.slot 6], [.slot 1, .slot 3, .slot 5, .slot 7], [.slot 8, .base 0 0]]
   [.base 0 1] [5, 6, 7, 8, 9, 10, 11, 12, 13]
   rfl (by kernel_rfl) ⟨rfl, rfl, trivial⟩ (Below.drew hB) (Nat.le_refl _) ⟨⟨g0.lt, obIn g0⟩, trivial⟩ ⟨trivial, trivial⟩ (below_G hB.size ⟨by omega, trivial⟩)
   ⟨
    (fun Q aq ww own hS hBg fr kn => .inl ⟨trivial, fun K hK => wp_value (exec_move rfl fr.1) (hK _ _ ⟨Touch.refl _ _, rfl⟩)⟩),
    (fun Q aq ww own hS hBg fr kn => .inl ⟨trivial, fun K hK => stepc enterNum rfl (args2 kn.1 rfl) ((numberAt_run m 4 ww (by have := HM.out; omega) (by omega)).mono (fun _ _ h => ⟨h.1, h.2 ▸ Below.refl _ _⟩)) (fun w' hb => hK _ _ ⟨touch_below hb, rfl⟩)⟩),
    (fun Q aq ww own hS hBg fr kn => .inl ⟨trivial, fun K hK => wp_value (exec_move rfl fr.1) (hK _ _ ⟨Touch.refl _ _, rfl⟩)⟩),
    (fun Q aq ww own hS hBg fr kn => .inl ⟨trivial, fun K hK => stepc enterNum rfl (args2 kn.1 rfl) ((numberAt_run m 8 ww (by have := HM.out; omega) (by omega)).mono (fun _ _ h => ⟨h.1, h.2 ▸ Below.refl _ _⟩)) (fun w' hb => hK _ _ ⟨touch_below hb, rfl⟩)⟩),
    (fun Q aq ww own hS hBg fr kn => .inl ⟨trivial, fun K hK => wp_value (exec_move rfl fr.1) (hK _ _ ⟨Touch.refl _ _, rfl⟩)⟩),
    (fun Q aq ww own hS hBg fr kn => .inl ⟨trivial, fun K hK => stepc enterKey rfl (args2 kn.1 rfl) (keyAt_run m 12 ww (by have := HM.out; omega) (by omega)) (fun w' hb => hK _ _ ⟨touch_below hb, rfl⟩)⟩),
    (fun Q aq ww own hS hBg fr kn => .inl ⟨trivial, fun K hK => wp_value (exec_move rfl fr.1) (hK _ _ ⟨Touch.refl _ _, rfl⟩)⟩),
    (fun Q aq ww own hS hBg fr kn => .inl ⟨trivial, fun K hK => wp_value (exec_slB (v := .string m) (u := .int .i64 44) (r := .int .i64 60) rfl kn.1 rfl rfl (HS44.out ww)) (hK _ _ ⟨Touch.refl _ _, rfl⟩)⟩),
    (fun Q aq ww own hS hBg fr kn => .inl ⟨trivial, fun K hK => wp_value (exec_resB rfl kn.1 kn.2.1 kn.2.2.1 kn.2.2.2.1) (hK _ _ ⟨Touch.refl _ _, rfl⟩)⟩),
    (fun Q aq ww own hS hBg fr kn => .inl ⟨trivial, fun K hK => act_st7 rfl is_res (resV_one _ _ _ _) fr.2.1 kn.1 (obAt kn.2.1) (fun w2 hg ho => hK _ _ ⟨⟨touch_only ho, obIn hg⟩, trivial⟩)⟩),
    trivial⟩ ?_
 intro vs own v2 hB1 hs1 kn inj
 clear inj hs1 g0 hB
 have g0 : SAt v2 w.heap.size 129 35 (resV (numA m 4 4) (numA m 8 4) (txt (m.extract 12 44)) (m.extract 44 60)) := obAt kn.1
 clear kn
 simp only [putAll, Act.put, List.setIfInBounds_toArray, List.set_cons_zero, List.set_cons_succ]
 go_wp2_with fail
 exact bodyPost_ret (res_c1 Tryz.results97 is_res g0 (by rfl)) rfl ⟨rfl, hB1⟩
set_option maxHeartbeats 1600000 in
theorem resOf_no (m : ByteArray) (w : World) (hm : ¬ (m.size = 92 ∧ numA m 0 4 = 2)) :
  Calls Tryz.prog 97 #[.string m] w fun x w' => x = gup (if m.size = 92 then 11 else 10) ∧ Below w.heap.size w w' := by
 have g0 : SAt (w.alloc (.cells (SC 35 (resZ)) 129)) w.heap.size 129 35 (resZ) := heap_alloc_new w _
 have hB : Below w.heap.size w (w.alloc (.cells (SC 35 (resZ)) 129)) := (Below.refl _ w).alloc (Nat.le_refl _) _
 go_enter Tryz.func97, Tryz.ntmps97
 go_wp2_with fail
 refine (needForm_no m 92 2 _ hm (by omega)).mono ?_
 rintro x v1 ⟨rfl, rfl⟩
 exact ⟨rfl, rfl, hB⟩
end Go.Proofs.YthghcjepdhkfdaaGreatDoor

/-
  Own text. Package noise: the shared key, the keys of a keypair.
-/
namespace Go.Proofs.YthghcjepdhkfdaaGreatDoor
open Go.RowKit Go.Proofs
set_option maxRecDepth 100000
theorem touch_GT {v0 : World} {T : Nat → Prop} {G : List (Nat × Cont)} (hG : ∀ k ∈ G.map (·.1), T k) (w w' : World) (h : Touch T v0 w) (ht : Touch (fun k => v0.heap.size ≤ k ∨ k ∈ G.map (·.1)) w w') : Touch T v0 w' :=
 ⟨ht.os.trans h.os, ht.tape.trans h.tape, ht.output.trans h.output, Nat.le_trans h.size ht.size, fun k hk hn => (ht.block k (by have := h.size; omega) (fun e => e.elim (fun e => by omega) (fun e => hn (hG k e)))).trans (h.block k hk hn)⟩
theorem res_aa {fn : Func} {p q : Tmp} {ty ty' : TypeId} (h : fn.results = #[.cell p ty, .cell q ty']) {tmps : Array Value} {w : World} {g g' n n' : Nat} {k k' : IntKind} {s s' : Nat → Int} (hA : IsArr ty n) (hA' : IsArr ty' n') (hg : ArrAt w g k ty n s) (hg' : ArrAt w g' k' ty' n' s') (hp : tmps.getD p undef = .pointer (some ⟨g, 0, none⟩)) (hq : tmps.getD q undef = .pointer (some ⟨g', 0, none⟩)) :
  (results fn tmps).run Tryz.prog w = .ok (.tuple #[.agg (WA k n s), .agg (WA k' n' s')]) w := by
 obtain ⟨m, e, h1, h3⟩ := hA
 obtain ⟨m', e', h1', h3'⟩ := hA'
 exact results_cells2 h tmps w g g' hp hq _ _ hg hg' (by rw [WA_size]; exact h3) (by rw [WA_size]; exact h3') h1 rfl h1' rfl
theorem res_sa {fn : Func} {p q : Tmp} {ty ty' : TypeId} (h : fn.results = #[.cell p ty, .cell q ty']) {tmps : Array Value} {w : World} {g g' n n' : Nat} {k' : IntKind} {V : Nat → Value} {s' : Nat → Int} (hA : IsSt ty n) (hA' : IsArr ty' n') (hg : SAt w g ty n V) (hg' : ArrAt w g' k' ty' n' s') (hp : tmps.getD p undef = .pointer (some ⟨g, 0, none⟩)) (hq : tmps.getD q undef = .pointer (some ⟨g', 0, none⟩)) :
  (results fn tmps).run Tryz.prog w = .ok (.tuple #[.agg (SC n V), .agg (WA k' n' s')]) w := by
 obtain ⟨d, h1, h2, h3⟩ := hA
 obtain ⟨m', e', h1', h3'⟩ := hA'
 exact results_cells2 h tmps w g g' hp hq _ _ hg hg' (by rw [SC_size]; exact h3) (by rw [WA_size]; exact h3') h1 (by cases d <;> first | rfl | exact h2) h1' rfl
theorem res_tc {fn : Func} {p q : Tmp} {ty : TypeId} (h : fn.results = #[.tmp p, .cell q ty]) {tmps : Array Value} {w : World} {g n : Nat} {V : Nat → Value} {x : Value} (hA : IsSt ty n) (hg : SAt w g ty n V) (hp : tmps.getD p undef = x) (hq : tmps.getD q undef = .pointer (some ⟨g, 0, none⟩)) :
  (results fn tmps).run Tryz.prog w = .ok (.tuple #[x, .agg (SC n V)]) w := by
 obtain ⟨d, h1, h2, h3⟩ := hA
 have hp' : tmps[p]?.getD undef = x := by simpa using hp
 have hq' : tmps[q]?.getD undef = .pointer (some ⟨g, 0, none⟩) := by simpa using hq
 have := run_loadVar_row (P := Tryz.prog) w g ty ty (SC n V) (0, 0) _ hg h1 (by cases d <;> first | rfl | exact h2) (by rw [SC_size]; exact h3)
 simp [results, h, hp', hq', asAddr, this]
theorem res_ct {fn : Func} {p q : Tmp} {ty : TypeId} (h : fn.results = #[.cell q ty, .tmp p]) {tmps : Array Value} {w : World} {g n : Nat} {V : Nat → Value} {x : Value} (hA : IsSt ty n) (hg : SAt w g ty n V) (hp : tmps.getD p undef = x) (hq : tmps.getD q undef = .pointer (some ⟨g, 0, none⟩)) :
  (results fn tmps).run Tryz.prog w = .ok (.tuple #[.agg (SC n V), x]) w := by
 obtain ⟨d, h1, h2, h3⟩ := hA
 have hp' : tmps[p]?.getD undef = x := by simpa using hp
 have hq' : tmps[q]?.getD undef = .pointer (some ⟨g, 0, none⟩) := by simpa using hq
 have := run_loadVar_row (P := Tryz.prog) w g ty ty (SC n V) (0, 0) _ hg h1 (by cases d <;> first | rfl | exact h2) (by rw [SC_size]; exact h3)
 simp [results, h, hp', hq', asAddr, this]
set_option maxHeartbeats 1600000 in
set_option maxRecDepth 100000 in
theorem shareIn_run (b : Nat) (H C K S : Nat → Int) (w : World) (hE : Env w) (hb3 : 3 ≤ b) (g : KtAt w b H C K) (hH : Byts 32 H) (hC : Byts 32 C) (hS : Byts 32 S) :
  Calls Tryz.prog 93 #[.pointer (some ⟨b, 0, none⟩), .agg (WA .u8 32 S)] w fun e w' => e = .returned (.tuple #[]) ∧ KtAt w' b (mixH H (mkS 32 (chn C (mkS 32 S) 1))) (chn C (mkS 32 S) 0) (chn C (mkS 32 S) 2) ∧ Touch (fun x => x = b) w w' := by
 have hbl := g.lt
 have hB : Below w.heap.size w (w.alloc (.cells (WA .u8 32 S) 22)) := (Below.refl _ w).alloc (Nat.le_refl _) _
 have g0 : ArrAt (w.alloc (.cells (WA .u8 32 S) 22)) w.heap.size .u8 22 32 S := heap_alloc_new w _
 have hcv := str_back 32 w.heap.size 32 _ 32 S g0.row hS rfl
 have HE := Hid.mk (hE.kept hB)
 have HG := Hid.mk (g.kept hB)
 have ht := belT b hB
 clear hE g hB g0
 go_enter Tryz.func93, Tryz.ntmps93
 go_wp2_with fail
 refine (keys_run b 3 H C K (mkS 32 S) _ HE.out HG.out hC (by rw [mkS_size]; omega) (by omega) (by omega)).mono ?_
 rintro e v0 ⟨gl, cl, rfl, hgl, rL, hb1⟩
 have g := HG.out.kept hb1
 have hE := HE.out.kept hb1
 have hglb : b < gl := Nat.lt_of_lt_of_le HG.out.lt hgl
 replace ht := ht.trans (belT b hb1)
 clear hb1 HE HG hcv hgl
 have hLb := fun i => chn_b C (mkS 32 S) i 32
 obtain ⟨L, hL⟩ : ∃ L, chn C (mkS 32 S) = L := ⟨_, rfl⟩
 rw [hL] at rL hLb
 have HRL : Hid (∀ u, Touch (fun x => x = b) v0 u → RowsAt u gl 3 0 L) := Hid.mk (fun u hu => rL.touch hu (by omega))
 go_wp2_with fail
 refine wp_region3 (Touch (fun x => x = b) v0) v0.heap.size
   [(b, twice (WA .u8 96 (ktF H C K)) 121 10 (WA .u8 96 (ktF H (L 0) K)) 13 (WA .u8 96 (ktF H (L 0) (L 2))))]
   [kv (.pointer (some ⟨b, 0, none⟩)), kv (.pointer (some ⟨b, 0, none⟩)), kv (.slice (some ⟨gl, 0, none⟩) 3 cl), kv (.pointer (some ⟨gl, 0 * 32, none⟩)), kv (.agg (WA .u8 32 (L 0))), kv (.slice (some ⟨gl, 0, none⟩) 3 cl), kv (.pointer (some ⟨gl, 2 * 32, none⟩)), kv (.agg (WA .u8 32 (L 2))), kv (.pointer (some ⟨b, 0, none⟩)), kv (.pointer (some ⟨b, 32, none⟩)), .val fun _ => True, kv (.pointer (some ⟨b, 0, none⟩)), kv (.pointer (some ⟨b, 64, none⟩)), .val fun _ => True]
   [.none, .none, .none, .none, .none, .none, .none, .none, .none, .none, .base 0 1, .none, .none, .base 0 2]
   [some 9, some 10, some 11, some 12, some 13, some 14, some 15, some 16, some 17, some 18, none, some 19, some 20, none]
   [(0, .pointer (some ⟨b, 0, none⟩)), (4, .slice (some ⟨gl, 0, none⟩) 3 cl)]
   [[], [], [], [.slot 2], [.slot 3], [], [.slot 5], [.slot 6], [.slot 0], [.slot 8], [.slot 9, .slot 4, .base 0 0], [.slot 1], [.slot 11], [.slot 12, .slot 7, .base 0 1]]
   [.base 0 2] [9, 10, 11, 12, 13, 14, 15, 16, 17, 18, 19, 20]
   rfl (by kernel_rfl) ⟨rfl, rfl, trivial⟩ (belT b (Below.refl _ v0).drew) (Nat.le_refl _) ⟨⟨g.lt, obIn g⟩, trivial⟩ ⟨trivial, trivial⟩ touch_G
   ⟨
    (fun Q aq ww own hS hBg fr kn => .inl ⟨trivial, fun K hK => wp_value (exec_move rfl fr.1) (hK _ _ ⟨Touch.refl _ _, rfl⟩)⟩),
    (fun Q aq ww own hS hBg fr kn => .inl ⟨trivial, fun K hK => wp_value (exec_move rfl fr.1) (hK _ _ ⟨Touch.refl _ _, rfl⟩)⟩),
    (fun Q aq ww own hS hBg fr kn => .inl ⟨trivial, fun K hK => wp_value (exec_move rfl fr.2.1) (hK _ _ ⟨Touch.refl _ _, rfl⟩)⟩),
    (fun Q aq ww own hS hBg fr kn => .inl ⟨trivial, fun K hK => wp_value (exec_idx32 (i := 0) rfl kn.1 rfl (by omega)) (hK _ _ ⟨Touch.refl _ _, rfl⟩)⟩),
    (fun Q aq ww own hS hBg fr kn => .inl ⟨trivial, fun K hK => wp_value (exec_ldmid rfl isArr32 kn.1 ((HRL.out ww hS).range (Nat.le_refl 0) (by omega))) (hK _ _ ⟨Touch.refl _ _, rfl⟩)⟩),
    (fun Q aq ww own hS hBg fr kn => .inl ⟨trivial, fun K hK => wp_value (exec_move rfl fr.2.1) (hK _ _ ⟨Touch.refl _ _, rfl⟩)⟩),
    (fun Q aq ww own hS hBg fr kn => .inl ⟨trivial, fun K hK => wp_value (exec_idx32 (i := 2) rfl kn.1 rfl (by omega)) (hK _ _ ⟨Touch.refl _ _, rfl⟩)⟩),
    (fun Q aq ww own hS hBg fr kn => .inl ⟨trivial, fun K hK => wp_value (exec_ldmid rfl isArr32 kn.1 ((HRL.out ww hS).range (Nat.zero_le 2) (by omega))) (hK _ _ ⟨Touch.refl _ _, rfl⟩)⟩),
    (fun Q aq ww own hS hBg fr kn => .inl ⟨trivial, fun K hK => wp_value (exec_nilc rfl kn.1) (hK _ _ ⟨Touch.refl _ _, rfl⟩)⟩),
    (fun Q aq ww own hS hBg fr kn => .inl ⟨trivial, fun K hK => wp_value (exec_fk (k := 1) rfl kn.1 (by decide)) (hK _ _ ⟨Touch.refl _ _, rfl⟩)⟩),
    (fun Q aq ww own hS hBg fr kn => .inl ⟨trivial, fun K hK => act_ktc rfl (obAt kn.2.2.1) kn.1 kn.2.1 (fun w2 hg ho => hK _ _ ⟨⟨touch_only ho, obIn hg⟩, trivial⟩)⟩),
    (fun Q aq ww own hS hBg fr kn => .inl ⟨trivial, fun K hK => wp_value (exec_nilc rfl kn.1) (hK _ _ ⟨Touch.refl _ _, rfl⟩)⟩),
    (fun Q aq ww own hS hBg fr kn => .inl ⟨trivial, fun K hK => wp_value (exec_fk (k := 2) rfl kn.1 (by decide)) (hK _ _ ⟨Touch.refl _ _, rfl⟩)⟩),
    (fun Q aq ww own hS hBg fr kn => .inl ⟨trivial, fun K hK => act_ktk rfl (obAt kn.2.2.1) kn.1 kn.2.1 (fun w2 hg ho => hK _ _ ⟨⟨touch_only ho, obIn hg⟩, trivial⟩)⟩),
    trivial⟩ ?_
 intro vs own v1 hT1 hsz kn inj
 clear inj hsz
 have g1 : KtAt v1 b H (L 0) (L 2) := obAt kn.1
 clear kn g
 have rL1 := HRL.out v1 hT1
 have hcv := str_cells gl (1 * 32) 32 v1 (L 1) (hLb 1) (rL1.range (Nat.zero_le 1) (by omega)) (cp := 32)
 replace hE := hE.touch hT1 hb3
 replace ht := ht.trans hT1
 clear HRL rL rL1 hT1
 simp only [putAll, Act.put, List.setIfInBounds_toArray, List.set_cons_zero, List.set_cons_succ]
 have hes : (mkS 32 (L 1)).size ≤ 562949953421312 := by rw [mkS_size]; omega
 obtain ⟨et, het⟩ : ∃ et, mkS 32 (L 1) = et := ⟨_, rfl⟩
 rw [het] at hes hcv
 go_wp2_with (first | (refine wl_value rfl (exec_idx32 (i := 1) rfl (by rfl) (by rfl) (by omega)) ?_) | (refine wl_value rfl (exec_sl rfl (by rfl) (sl32o gl (1 * 32) _)) ?_) | (refine wl_value rfl (exec_conv rfl (by rfl) hcv) ?_) | (refine wl_bs1 (s := et) (by rfl) ?_; intro v5 hS5 hb5 hz5; refine Hid.out ?_))
 have hst := g1.lt
 replace g1 := g1.kept hb5
 replace hE := hE.kept hb5
 replace ht := ht.trans (belT b hb5)
 clear hz5 hb5 hcv
 refine Hid.mk ?_
 go_wp2_with fail
 refine (mixIn_run b H (L 0) (L 2) _ 1 (one1 et) _ hE hb3 g1 hH (fun u hu => hS5.touch (fun p n c hp => by cases hp; exact Nat.ne_of_gt hst) hu) (by omega) (fun i _ => hes)).mono ?_
 rintro x v6 ⟨rfl, g6, t6⟩
 go_wp2_with fail
 refine bodyPost_end (results_none rfl _ _ _) rfl ⟨rfl, ?_, ht.trans t6⟩
 rw [hL, het]
 exact g6
set_option maxHeartbeats 1600000 in
set_option maxRecDepth 100000 in
theorem ends_run (b : Nat) (H C K : Nat → Int) (w : World) (hE : Env w) (g : KtAt w b H C K) (hC : Byts 32 C) :
  Calls Tryz.prog 94 #[.pointer (some ⟨b, 0, none⟩)] w fun e w' => e = .returned (.tuple #[.agg (WA .u8 32 (chn C ⟨#[]⟩ 0)), .agg (WA .u8 32 (chn C ⟨#[]⟩ 1))]) ∧ Below w.heap.size w w' := by
 have hB : Below w.heap.size w ((w.alloc (.cells (WA .u8 32 (fun _ => 0)) 22)).alloc (.cells (WA .u8 32 (fun _ => 0)) 22)) := ((Below.refl _ w).alloc (by simp) _).alloc (by simp) _
 have g0 : ArrAt ((w.alloc (.cells (WA .u8 32 (fun _ => 0)) 22)).alloc (.cells (WA .u8 32 (fun _ => 0)) 22)) w.heap.size .u8 22 32 (fun _ => 0) := heap_alloc2_old w _ _
 have g1 : ArrAt ((w.alloc (.cells (WA .u8 32 (fun _ => 0)) 22)).alloc (.cells (WA .u8 32 (fun _ => 0)) 22)) (w.heap.size + 1) .u8 22 32 (fun _ => 0) := heap_alloc2_new w _ _
 have hs2 : (((w.alloc (.cells (WA .u8 32 (fun _ => 0)) 22)).alloc (.cells (WA .u8 32 (fun _ => 0)) 22))).heap.size = w.heap.size + 1 + 1 := by simp
 have HE := Hid.mk (hE.kept hB)
 have HG := Hid.mk (g.kept hB)
 have hK := fun u hu gu => keys_run b 2 H C K ⟨#[]⟩ u hu gu hC (of_decide_eq_true rfl) (by omega) (by omega)
 obtain ⟨L, hL⟩ : ∃ L, chn C ⟨#[]⟩ = L := ⟨_, rfl⟩
 rw [hL] at hK
 clear hE g
 go_enter Tryz.func94, Tryz.ntmps94
 go_wp2_with fail
 refine (hK _ HE.out HG.out).mono ?_
 rintro e v0 ⟨gl, cl, rfl, hgl, rL, hb1⟩
 have hgl2 : w.heap.size + 1 + 1 ≤ gl := by rw [← hs2]; exact hgl
 replace g0 := g0.kept hb1
 replace g1 := g1.kept hb1
 replace hB := hB.trans (hb1.mono hB.size)
 clear hb1 HE HG hK hgl hs2
 have HRL : Hid (∀ u, Touch (fun x => x = w.heap.size ∨ x = (w.heap.size + 1)) v0 u → RowsAt u gl 2 0 L) := Hid.mk (fun u hu => rL.block (hu.block gl rL.lt (by omega)))
 go_wp2_with fail
 refine wp_region3 (Touch (fun x => x = w.heap.size ∨ x = (w.heap.size + 1)) v0) v0.heap.size
   [(w.heap.size, once (WA .u8 32 (fun _ => 0)) 22 6 (WA .u8 32 (L 0))), ((w.heap.size + 1), once (WA .u8 32 (fun _ => 0)) 22 7 (WA .u8 32 (L 1)))]
   [kv (.slice (some ⟨gl, 0, none⟩) 2 cl), kv (.pointer (some ⟨gl, 0 * 32, none⟩)), kv (.agg (WA .u8 32 (L 0))), kv (.slice (some ⟨gl, 0, none⟩) 2 cl), kv (.pointer (some ⟨gl, 1 * 32, none⟩)), kv (.agg (WA .u8 32 (L 1))), .val fun _ => True, .val fun _ => True]
   [.none, .none, .none, .none, .none, .none, .base 0 1, .base 1 1]
   [some 7, some 8, some 9, some 10, some 11, some 12, none, none]
   [(4, .slice (some ⟨gl, 0, none⟩) 2 cl), (2, .pointer (some ⟨w.heap.size, 0, none⟩)), (3, .pointer (some ⟨(w.heap.size + 1), 0, none⟩))]
   [[], [.slot 0], [.slot 1], [], [.slot 3], [.slot 4], [.slot 2, .base 0 0], [.slot 5, .base 1 0]]
   [.base 0 1, .base 1 1] [7, 8, 9, 10, 11, 12]
   rfl (by kernel_rfl) ⟨rfl, rfl, rfl, trivial⟩ (touch_le (Below.refl _ v0).drew) (Nat.le_refl _) ⟨⟨g0.lt, obIn g0⟩, ⟨g1.lt, obIn g1⟩, trivial⟩ ⟨⟨(show (w.heap.size : Nat) ≠ (w.heap.size + 1) from by omega), trivial⟩, trivial, trivial⟩ (touch_GT (fun k hk => by simpa using hk))
   ⟨
    (fun Q aq ww own hS hBg fr kn => .inl ⟨trivial, fun K hK => wp_value (exec_move rfl fr.1) (hK _ _ ⟨Touch.refl _ _, rfl⟩)⟩),
    (fun Q aq ww own hS hBg fr kn => .inl ⟨trivial, fun K hK => wp_value (exec_idx32 (i := 0) rfl kn.1 rfl (by omega)) (hK _ _ ⟨Touch.refl _ _, rfl⟩)⟩),
    (fun Q aq ww own hS hBg fr kn => .inl ⟨trivial, fun K hK => wp_value (exec_ldmid rfl isArr32 kn.1 ((HRL.out ww hS).range (Nat.le_refl 0) (by omega))) (hK _ _ ⟨Touch.refl _ _, rfl⟩)⟩),
    (fun Q aq ww own hS hBg fr kn => .inl ⟨trivial, fun K hK => wp_value (exec_move rfl fr.1) (hK _ _ ⟨Touch.refl _ _, rfl⟩)⟩),
    (fun Q aq ww own hS hBg fr kn => .inl ⟨trivial, fun K hK => wp_value (exec_idx32 (i := 1) rfl kn.1 rfl (by omega)) (hK _ _ ⟨Touch.refl _ _, rfl⟩)⟩),
    (fun Q aq ww own hS hBg fr kn => .inl ⟨trivial, fun K hK => wp_value (exec_ldmid rfl isArr32 kn.1 ((HRL.out ww hS).range (Nat.zero_le 1) (by omega))) (hK _ _ ⟨Touch.refl _ _, rfl⟩)⟩),
    (fun Q aq ww own hS hBg fr kn => .inl ⟨trivial, fun K hK => act_arr rfl isArr32 fr.2.1 kn.1 (obAt kn.2.1) (fun w2 hg ho => hK _ _ ⟨⟨touch_only ho, obIn hg⟩, trivial⟩)⟩),
    (fun Q aq ww own hS hBg fr kn => .inl ⟨trivial, fun K hK => act_arr rfl isArr32 fr.2.2.1 kn.1 (obAt kn.2.1) (fun w2 hg ho => hK _ _ ⟨⟨touch_only ho, obIn hg⟩, trivial⟩)⟩),
    trivial⟩ ?_
 intro vs own v1 hT1 hsz kn inj
 clear inj hsz g0 g1
 have g0 : ArrAt v1 w.heap.size .u8 22 32 (L 0) := obAt kn.1
 have g1 : ArrAt v1 (w.heap.size + 1) .u8 22 32 (L 1) := obAt kn.2.1
 clear kn HRL rL
 have hBf : Below w.heap.size w v1 := ⟨hT1.os.trans hB.os, hT1.tape.trans hB.tape, hT1.output.trans hB.output, Nat.le_trans hB.size hT1.size, fun k hk => (hT1.block k (by have := hB.size; omega) (by omega)).trans (hB.block k hk)⟩
 clear hT1 hB
 simp only [putAll, Act.put, List.setIfInBounds_toArray, List.set_cons_zero, List.set_cons_succ]
 go_wp2_with fail
 refine bodyPost_ret (v := .tuple #[.agg (WA .u8 32 (L 0)), .agg (WA .u8 32 (L 1))]) (res_aa Tryz.results94 isArr32 isArr32 g0 g1 (by rfl) (by rfl)) rfl ⟨?_, hBf⟩
 rw [hL]
end Go.Proofs.YthghcjepdhkfdaaGreatDoor

