/-
  Own text. Package noise: numbers in four bytes, numbers and keys within a text, bytes the highest first.
-/
import Derived.Test.YthghcjepdhkfdaaGreatDoorJS1
import Derived.Test.YthghcjepdhkfdaaGreatDoorJS2
import Derived.Test.YthghcjepdhkfdaaGreatDoorJS4
import Derived.Test.YthghcjepdhkfdaaGreatDoorJS5
namespace Go.Proofs.YthghcjepdhkfdaaGreatDoor
open Go.RowKit Go.Proofs
set_option maxRecDepth 100000
theorem shr4 (n : Int) (i : Nat) (hi : i < 4) (w : World) : (binOp .shr 23 (.int .u32 n) (.int .i64 (8 * (i : Int)))).run Tryz.prog w = .ok (.int .u32 (n / 256 ^ i)) w := by
  match i, hi with
  | 0, _ => simp [go_sem]
  | 1, _ => simp [go_sem]
  | 2, _ => simp [go_sem]
  | 3, _ => simp [go_sem]
theorem exec_shr4 {a : Act} {o : Oper} {w : World} {x y : Operand} (ho : o.op = .binOp .shr 23 x y 3) {n : Int} {i : Nat} (hx : a.eval x = .int .u32 n) (hy : a.eval y = .int .i64 (8 * (i : Int))) (hi : i < 4) : (execOp a.eval o).run Tryz.prog w = .ok (.value (.int .u32 (n / 256 ^ i))) w := exec_bin2 ho hx hy rfl (shr4 n i hi w)
set_option maxHeartbeats 4000000 in
theorem lowest4_run (n : Int) (w : World) :
    Calls Tryz.prog 122 #[.int .u32 n] w fun e w' => e = .returned (.string (mkS 4 (digN n))) ∧ Below w.heap.size w w' := by
  have g1 : ArrAt (w.alloc (.cells (WA .u8 4 fun _ => 0) 179)) w.heap.size .u8 179 4 (fun _ => 0) := heap_alloc_new w _
  have hB : Below w.heap.size w (w.alloc (.cells (WA .u8 4 fun _ => 0) 179)) := (Below.refl _ w).alloc (by simp) _
  go_enter Tryz.func122, Tryz.ntmps122
  go_wp2_with fail
  go_loopg [5] 4 (fun gm iv v => ∃ i : Nat, Hid (gm + i = 4) ∧ iv = .int .i64 (i : Int) ∧ ArrAt v w.heap.size .u8 179 4 (fun j => if j < i then digN n j else 0) ∧ Below w.heap.size w v)
  case atStart => exact ⟨0, Hid.mk rfl, rfl, g1.congr (fun j _ => by rw [if_neg (by omega)]), hB⟩
  case round =>
    clear g1 hB
    obtain ⟨i, HI, rfl, g1, hB⟩ := hrel
    have hi8 : i ≤ 4 := by have := HI.out; omega
    by_cases hil : i < 4
    · have c0 := g1.cell i hil
      have f0 := g1.free i
      have g2 := Hid.mk ((g1.set i (n / 256 ^ i % 256) hil).congr (s' := fun j => if j < i + 1 then digN n j else 0) (fun j _ => by
        unfold upd
        by_cases e : j = i
        · subst e; rw [if_pos rfl, if_pos (by omega)]; rfl
        · rw [if_neg e]
          show (if j < i then digN n j else 0) = _
          by_cases h : j < i
          · rw [if_pos h, if_pos (by omega)]
          · rw [if_neg h, if_neg (by omega)]))
      go_wp2_with (refine wl_value rfl (exec_shr4 rfl (by rfl) (by rfl) hil) ?_)
      generalize n / 256 ^ i = q at *
      go_wp2_with fail
      go_roundg (4 - (i + 1))
      case rel => exact ⟨i + 1, Hid.mk (by omega), by go_num, g2.out, Below.setCell (p := ⟨w.heap.size, i, none⟩) hB (by simp) _⟩
      case measure => have := HI.out; omega
    · have hi2 : i = 4 := by omega
      subst hi2
      replace g1 := g1.congr (s' := digN n) (fun j hj => by rw [if_pos hj])
      have hcv := str_back 4 w.heap.size 4 _ 4 (digN n) g1.row (fun j _ => digN_b n j) rfl
      go_wp2_with fail
      go_ret
      exact ⟨rfl, hB⟩
/-- The number of the first bytes from a place on. -/
def numA (m : ByteArray) (p : Nat) : Nat → Int
  | 0 => 0
  | i + 1 => numA m p i + txt m (p + i) * 256 ^ i
theorem numA_b (m : ByteArray) (p : Nat) : ∀ i, 0 ≤ numA m p i ∧ numA m p i < 256 ^ i
  | 0 => by unfold numA; omega
  | i + 1 => by
    have ih := numA_b m p i
    have h := txt_b m (p + i)
    have hp : (0 : Int) < 256 ^ i := Int.pow_pos (by omega)
    have h1 : 0 ≤ txt m (p + i) * 256 ^ i := Int.mul_nonneg h.1 (by omega)
    have h2 : txt m (p + i) * 256 ^ i ≤ 255 * 256 ^ i := Int.mul_le_mul_of_nonneg_right (by omega) (by omega)
    unfold numA
    rw [Int.pow_succ]
    omega
theorem shl4 (x : Int) (i : Nat) (hx : 0 ≤ x ∧ x < 256) (hi : i < 4) (w : World) : (binOp .shl 23 (.int .u32 x) (.int .i64 (8 * (i : Int)))).run Tryz.prog w = .ok (.int .u32 (x * 256 ^ i)) w := by
  match i, hi with
  | 0, _ => simp [go_sem, IntKind.wrap_u32]; omega
  | 1, _ => simp [go_sem, IntKind.wrap_u32]; omega
  | 2, _ => simp [go_sem, IntKind.wrap_u32]; omega
  | 3, _ => simp [go_sem, IntKind.wrap_u32]; omega
theorem exec_shl4 {a : Act} {o : Oper} {w : World} {x y : Operand} (ho : o.op = .binOp .shl 23 x y 3) {n : Int} {i : Nat} (hx : a.eval x = .int .u32 n) (hy : a.eval y = .int .i64 (8 * (i : Int))) (hn : 0 ≤ n ∧ n < 256) (hi : i < 4) : (execOp a.eval o).run Tryz.prog w = .ok (.value (.int .u32 (n * 256 ^ i))) w := exec_bin2 ho hx hy rfl (shl4 n i hn hi w)
theorem or4n (a x : Int) (i : Nat) (ha : 0 ≤ a ∧ a < 256 ^ i) (hx : 0 ≤ x ∧ x < 256) (hi : i < 4) : bits .or .u32 a (x * 256 ^ i) = a + x * 256 ^ i := by
  match i, hi with
  | 0, _ => exact or_add a x 0 (256 ^ 0) rfl ha.1 (by omega) (by omega) hx.1 (by omega)
  | 1, _ => exact or_add a x 8 (256 ^ 1) rfl ha.1 (by omega) (by omega) hx.1 (by omega)
  | 2, _ => exact or_add a x 16 (256 ^ 2) rfl ha.1 (by omega) (by omega) hx.1 (by omega)
  | 3, _ => exact or_add a x 24 (256 ^ 3) rfl ha.1 (by omega) (by omega) hx.1 (by omega)
theorem exec_or4 {a : Act} {o : Oper} {w : World} {x y : Operand} (ho : o.op = .binOp .or 23 x y 23) {m n : Int} {i : Nat} (hx : a.eval x = .int .u32 m) (hy : a.eval y = .int .u32 (n * 256 ^ i)) (hm : 0 ≤ m ∧ m < 256 ^ i) (hn : 0 ≤ n ∧ n < 256) (hi : i < 4) : (execOp a.eval o).run Tryz.prog w = .ok (.value (.int .u32 (m + n * 256 ^ i))) w := by
  have h := or4n m n i hm hn hi
  exact exec_bin2 ho hx hy rfl (by rw [← h]; simp [go_sem])
set_option maxHeartbeats 4000000 in
theorem numberAt_run (m : ByteArray) (p : Nat) (w : World) (hp : p + 4 ≤ m.size) (hq : p ≤ 1000) :
    Calls Tryz.prog 112 #[.string m, .int .i64 (p : Int)] w fun e w' => e = .returned (.int .u32 (numA m p 4)) ∧ w' = w := by
  go_enter Tryz.func112, Tryz.ntmps112
  go_wp2_with fail
  go_loopg [5, 7] 4 (fun gm av iv v => ∃ i : Nat, Hid (gm + i = 4) ∧ iv = .int .i64 (i : Int) ∧ av = .int .u32 (numA m p i) ∧ v = w)
  case atStart => exact ⟨0, Hid.mk rfl, rfl, rfl, rfl⟩
  case round =>
    obtain ⟨i, HI, rfl, rfl, rfl⟩ := hrel
    have hi8 : i ≤ 4 := by have := HI.out; omega
    by_cases hil : i < 4
    · have hA := numA_b m p i
      have hT := txt_b m (p + i)
      have HN : Hid (numA m p i + txt m (p + i) * 256 ^ i = numA m p (i + 1)) := Hid.mk rfl
      have HX : Hid (p + i < m.size) := Hid.mk (by omega)
      go_wp2_with (first | (refine wl_value rfl (exec_ixs (j := p + i) rfl (by rfl) (by show Value.int .i64 _ = _; congr 1) HX.out) ?_) | (refine wl_value rfl (exec_shl4 (i := i) rfl (by rfl) (by rfl) hT hil) ?_) | (refine wl_value rfl (exec_or4 rfl (by rfl) (by rfl) hA hT hil) ?_))
      rw [HN.out]
      go_roundg (4 - (i + 1))
      case rel => exact ⟨i + 1, Hid.mk (by omega), by go_num, rfl, rfl⟩
      case measure => have := HI.out; omega
    · have hi2 : i = 4 := by omega
      subst hi2
      go_wp2_with fail
      go_ret
      exact ⟨rfl, rfl⟩
theorem wl_bytes {ops : Array Oper} {rest : List Oper} {d : Option Tmp} {x : Operand} {ty : TypeId} {ps : String} {af : Array Edge} {a : Act} {w : World} {Q : Exit → Act → World → Prop} {s : ByteArray} {n : Nat} (hx : a.eval x = .string s) (hn : s.size = n)
    (h : ∀ w' cp, RowAt w' w.heap.size .u8 5 n (txt s) → Below w.heap.size w w' → wpList Tryz.prog ops Q rest (a.put d (.slice (some ⟨w.heap.size, 0, none⟩) n cp)) w') :
    wpList Tryz.prog ops Q ({ dst := d, op := .convert 9 81 x, type := ty, pos := ps, after := af, guard := none } :: rest) a w := by
  subst hn
  obtain ⟨cp, v, hr, hR, hb⟩ := conv_str s w
  refine wl_act rfl ?_
  unfold Oper.wp execOp
  simp only [hx, Sem.run_bind, hr, Result.andThen_ok, Sem.run_pure, Oper.upon]
  exact h v cp hR hb
theorem act_bytes {o : Oper} {a : Act} {w : World} {K : Act → World → Prop} {Q : Exit → Act → World → Prop} {x : Operand} (ho : o.op = .convert 9 81 x) {s : ByteArray} {n : Nat} (hx : a.eval x = .string s) (hn : s.size = n)
    (h : ∀ w' cp, RowAt w' w.heap.size .u8 5 n (txt s) → Below w.heap.size w w' → K (a.put o.dst (.slice (some ⟨w.heap.size, 0, none⟩) n cp)) w') : o.wp Tryz.prog a w K Q := by
  subst hn
  obtain ⟨cp, v, hr, hR, hb⟩ := conv_str s w
  unfold Oper.wp execOp
  simp only [ho, hx, Sem.run_bind, hr, Result.andThen_ok, Sem.run_pure, Oper.upon]
  exact h v cp hR hb
theorem exec_toa {a : Act} {o : Oper} {w : World} {x : Operand} {t : TypeId} (ho : o.op = .sliceToArrayPointer t x) {v r : Value} (hx : a.eval x = v) (hr : (Instr.arrayAt t v).run Tryz.prog w = .ok r w) : (execOp a.eval o).run Tryz.prog w = .ok (.value r) w := by
  unfold execOp
  simp [ho, hx, hr]
theorem toa12 (b cap : Nat) (w : World) : (Instr.arrayAt 26 (.slice (some ⟨b, 0, none⟩) 12 cap)).run Tryz.prog w = .ok (.pointer (some ⟨b, 0, none⟩)) w := by simp [go_sem, Instr.arrayAt]
theorem row_range {w : World} {b n : Nat} {t : TypeId} {s : Nat → Int} (h : RowAt w b .u8 t n s) : w.rangeAt b 0 (nums .u8 n s) := fun j v hv => by
  obtain ⟨hj, rfl⟩ := nums_get hv
  rw [Nat.zero_add]
  exact h.cell j hj
end Go.Proofs.YthghcjepdhkfdaaGreatDoor

/-
  Own text. Package noise: a handshake's state, and what is done to it.
-/
namespace Go.Proofs.YthghcjepdhkfdaaGreatDoor
open Go.RowKit Go.Proofs
set_option maxRecDepth 100000
theorem touch_le {T : Nat → Prop} {w w' : World} (h : Below w.heap.size w w') : Touch T w w' := ⟨h.os, h.tape, h.output, h.size, fun k hk _ => h.block k hk⟩
/-- What the package variables hold. -/
def Env (w : World) : Prop := Tabs w ∧ Fld.PrimeAt w
theorem Env.two {w : World} (h : Env w) : 3 ≤ w.heap.size := h.1.two
theorem Env.blk {w w' : World} (h : Env w) (e : ∀ k, k < 3 → w'.heap[k]? = w.heap[k]?) : Env w' := by
  have h0 := e 0 (by decide)
  exact ⟨h.1.block (e _ (by decide)) (e _ (by decide)), ⟨(World.cell?_of_block (w := w) h0).trans h.2.1, (World.cell?_of_block (w := w) h0).trans h.2.2.1, (World.cell?_of_block (w := w) h0).trans h.2.2.2.1, (World.cell?_of_block (w := w) h0).trans h.2.2.2.2⟩⟩
theorem Env.below {B : Nat} {w w' : World} (h : Env w) (hb : Below B w w') (hB : 3 ≤ B) : Env w' := h.blk (fun k hk => hb.block k (by omega))
theorem Env.kept {w w' : World} (h : Env w) (hb : Below w.heap.size w w') : Env w' := h.below hb h.two
theorem Env.touch {b : Nat} {w w' : World} (h : Env w) (ht : Touch (fun x => x = b) w w') (hb : 3 ≤ b) : Env w' := h.blk (fun k hk => ht.block k (by have := h.two; omega) (by omega))
theorem Env.only {b : Nat} {w w' : World} (h : Env w) (ht : Only b w w') (hb : 3 ≤ b) : Env w' := h.blk (fun k hk => ht.block k (by omega))
theorem str_cells (b off n : Nat) (w : World) (f : Nat → Int) (hf : Byts n f) (hr : w.rangeAt b off (nums .u8 n f)) {cp : Nat} : (convert 81 9 (.slice (some ⟨b, off, none⟩) n cp)).run Tryz.prog w = .ok (.string (mkS n f)) w := by
  have h := run_convert_bytes_back (P := Tryz.prog) w 81 9 5 ⟨b, off, none⟩ cp (bytesL n f) Tryz.underlying81 Tryz.underlying5 Tryz.underlying9 (fun j hj => by
    rw [bytesL_len] at hj
    rw [Addr.add_lit, hr j _ (nums_at .u8 n f hj)]
    have := hf j hj
    simp [bytesL]
    omega)
  rw [bytesL_len] at h
  exact h
/-- A handshake's state in memory: hash, chain, key. -/
def ktF (H C K : Nat → Int) : Nat → Int := cat 64 (cat 32 H C) K
def KtAt (w : World) (b : Nat) (H C K : Nat → Int) : Prop := ArrAt w b .u8 121 96 (ktF H C K)
section
variable {w w' : World} {b : Nat} {H C K : Nat → Int}
theorem KtAt.lt (h : KtAt w b H C K) : b < w.heap.size := ArrAt.lt h
theorem KtAt.kept (h : KtAt w b H C K) (hb : Below w.heap.size w w') : KtAt w' b H C K := ArrAt.kept h hb
theorem KtAt.h (h : KtAt w b H C K) : w.rangeAt b 0 (nums .u8 32 H) := fun j v hj => by
  obtain ⟨hj2, rfl⟩ := nums_get hj
  rw [Nat.zero_add, ArrAt.cell h j (by omega)]
  unfold ktF cat
  rw [if_pos (by omega), if_pos hj2]
theorem KtAt.c (h : KtAt w b H C K) : w.rangeAt b 32 (nums .u8 32 C) := fun j v hj => by
  obtain ⟨hj2, rfl⟩ := nums_get hj
  rw [ArrAt.cell h (32 + j) (by omega)]
  unfold ktF cat
  rw [if_pos (by omega), if_neg (by omega), Nat.add_sub_cancel_left]
theorem KtAt.part {o m : Nat} {r : Nat → Int} (h : KtAt w b H C K) (hm : o + m ≤ 96) : ArrAt (w.setCells b o (nums .u8 m r)) b .u8 121 96 (over (ktF H C K) o m r) ∧ Only b w (w.setCells b o (nums .u8 m r)) := by
  obtain ⟨C', h1, h2, h3, h4, h5⟩ := setCells_heap (nums .u8 m r) o w _ h (by rw [nums_len, WA_size]; exact hm)
  rw [nums_len] at h3 h4
  rw [WA_size] at h2
  have e : C' = WA .u8 96 (over (ktF H C K) o m r) := WA_ext h2 (fun i hi => by
    unfold over
    by_cases h : o ≤ i ∧ i < o + m
    · rw [if_pos h]
      have := h3 (i - o) (by omega)
      rw [show o + (i - o) = i by omega] at this
      rw [this, nums_at .u8 m r (by omega)]
    · rw [if_neg h, h4 i (by omega), WA_get .u8 96 _ i hi])
  exact ⟨by unfold ArrAt; rw [h1, e], h5⟩
theorem KtAt.setH (h : KtAt w b H C K) (X : Nat → Int) : KtAt (w.setCells b 0 (nums .u8 32 X)) b X C K ∧ Only b w (w.setCells b 0 (nums .u8 32 X)) := by
  obtain ⟨h1, h2⟩ := h.part (o := 0) (m := 32) (r := X) (by omega)
  refine ⟨h1.congr (fun i hi => ?_), h2⟩
  unfold over ktF cat
  by_cases e : 0 ≤ i ∧ i < 0 + 32
  · rw [if_pos e]
    rw [if_pos (by omega), if_pos (by omega), Nat.sub_zero]
  · rw [if_neg e]
    by_cases e1 : i < 64
    · rw [if_pos e1, if_pos e1]
      by_cases e2 : i < 32
      · first | (exfalso; omega) | rw [if_pos e2, if_pos e2]
      · first | (exfalso; omega) | rw [if_neg e2, if_neg e2]
    · first | (exfalso; omega) | rw [if_neg e1, if_neg e1] | rfl
theorem KtAt.setC (h : KtAt w b H C K) (X : Nat → Int) : KtAt (w.setCells b 32 (nums .u8 32 X)) b H X K ∧ Only b w (w.setCells b 32 (nums .u8 32 X)) := by
  obtain ⟨h1, h2⟩ := h.part (o := 32) (m := 32) (r := X) (by omega)
  refine ⟨h1.congr (fun i hi => ?_), h2⟩
  unfold over ktF cat
  by_cases e : 32 ≤ i ∧ i < 32 + 32
  · rw [if_pos e]
    rw [if_pos (by omega), if_neg (by omega)]
  · rw [if_neg e]
    by_cases e1 : i < 64
    · rw [if_pos e1, if_pos e1]
      by_cases e2 : i < 32
      · first | (exfalso; omega) | rw [if_pos e2, if_pos e2]
      · first | (exfalso; omega) | rw [if_neg e2, if_neg e2]
    · first | (exfalso; omega) | rw [if_neg e1, if_neg e1] | rfl
end
theorem st_kth {ops : Array Oper} {rest : List Oper} {d : Option Tmp} {x y : Operand} {t : TypeId} {ps : String} {af : Array Edge} {a : Act} {w : World} {Q : Exit → Act → World → Prop} {b : Nat} {H C K X : Nat → Int}
    (hg : KtAt w b H C K) (hx : a.eval x = .pointer (some ⟨b, 0, none⟩)) (hy : a.eval y = .agg (WA .u8 32 X)) (h : ∀ w2, KtAt w2 b X C K → Only b w w2 → wpList Tryz.prog ops Q rest (a.put d undef) w2) :
    wpList Tryz.prog ops Q ({ dst := d, op := .store 22 x y, type := t, pos := ps, after := af, guard := none } :: rest) a w := by
  obtain ⟨_, _, _, h3⟩ := isArr32
  have h2 := hg.setH X
  exact wpList_store_mid rfl 22 x y rfl b 0 (WA .u8 32 X) hx hy (by rw [WA_size]; exact there_row hg (by rw [WA_size]; omega)) (by rw [WA_size]; exact h3) (WA_one .u8 32 X) (h _ h2.1 h2.2)
theorem st_ktc {ops : Array Oper} {rest : List Oper} {d : Option Tmp} {x y : Operand} {t : TypeId} {ps : String} {af : Array Edge} {a : Act} {w : World} {Q : Exit → Act → World → Prop} {b : Nat} {H C K X : Nat → Int}
    (hg : KtAt w b H C K) (hx : a.eval x = .pointer (some ⟨b, 32, none⟩)) (hy : a.eval y = .agg (WA .u8 32 X)) (h : ∀ w2, KtAt w2 b H X K → Only b w w2 → wpList Tryz.prog ops Q rest (a.put d undef) w2) :
    wpList Tryz.prog ops Q ({ dst := d, op := .store 22 x y, type := t, pos := ps, after := af, guard := none } :: rest) a w := by
  obtain ⟨_, _, _, h3⟩ := isArr32
  have h2 := hg.setC X
  exact wpList_store_mid rfl 22 x y rfl b 32 (WA .u8 32 X) hx hy (by rw [WA_size]; exact there_row hg (by rw [WA_size]; omega)) (by rw [WA_size]; exact h3) (WA_one .u8 32 X) (h _ h2.1 h2.2)
set_option maxHeartbeats 1600000 in
theorem keys_run (b n : Nat) (H C K : Nat → Int) (s : ByteArray) (w : World) (hE : Env w) (g : KtAt w b H C K) (hC : Byts 32 C) (hs : s.size ≤ 140737488355328) (h1 : 1 ≤ n) (h8 : n ≤ 8) :
    Calls Tryz.prog 119 #[.pointer (some ⟨b, 0, none⟩), .int .i64 (n : Int), .string s] w fun e w' => ∃ gl cl, e = .returned (.slice (some ⟨gl, 0, none⟩) n cl) ∧ w.heap.size ≤ gl ∧ RowsAt w' gl n 0 (chn C s) ∧ Below w.heap.size w w' := by
  have hr := g.c
  have hCh := fun u hT => Chain_run n C s u hT hC h1 h8 hs
  change ∀ u, Tabs u → Calls Tryz.prog 148 #[.int .i64 (n : Int), .agg (WA .u8 32 C), .string s] u fun e w' => ∃ v B, e = .returned (.tuple #[v, .int .i64 0]) ∧ u.heap.size ≤ B ∧ w'.ownsRow B 22 32 v n (rowsL (chn C s) n) ∧ Below u.heap.size u w' at hCh
  have HT := Hid.mk hE.1
  clear hE
  go_enter Tryz.func119, Tryz.ntmps119
  go_wp2_with (refine wl_value rfl (exec_ldmid rfl isArr32 (by rfl) hr) ?_)
  refine (hCh _ HT.out).mono ?_
  rintro e v1 ⟨vl, Bl, rfl, hBl, hO, hb1⟩
  obtain ⟨gl, cl, rfl, hgl, rL⟩ := own_rows hO (by omega)
  clear hr hO hCh
  go_wp2_with fail
  go_ret
  exact ⟨gl, cl, rfl, by omega, rL, hb1⟩
set_option maxHeartbeats 1600000 in
theorem chainIn_run (b : Nat) (H C K : Nat → Int) (s : ByteArray) (w : World) (hE : Env w) (g : KtAt w b H C K) (hC : Byts 32 C) (hs : s.size ≤ 140737488355328) :
    Calls Tryz.prog 92 #[.pointer (some ⟨b, 0, none⟩), .string s] w fun e w' => e = .returned (.tuple #[]) ∧ KtAt w' b H (chn C s 0) K ∧ Touch (fun x => x = b) w w' := by
  have hbl := g.lt
  go_enter Tryz.func92, Tryz.ntmps92
  go_wp2_with fail
  refine (keys_run b 1 H C K s _ hE g hC hs (by omega) (by omega)).mono ?_
  rintro e v1 ⟨gl, cl, rfl, hgl, rL, hb1⟩
  replace g := g.kept hb1
  have ht := belT b hb1
  have hr0 := rL.range (Nat.le_refl 0) (by omega)
  clear hb1 hE
  go_wp2_with (first | (refine wl_value rfl (exec_idx32 (i := 0) rfl (by rfl) (by rfl) (by omega)) ?_) | (refine wl_value rfl (exec_ldmid rfl isArr32 (by rfl) hr0) ?_) | (refine st_ktc g (by rfl) (by rfl) ?_; intro v3 g3 o3; refine Hid.out ?_))
  refine Hid.mk ?_
  go_wp2_with fail
  exact bodyPost_end (results_none rfl _ _ _) rfl ⟨rfl, g3, ht.trans (touch_only o3)⟩
end Go.Proofs.YthghcjepdhkfdaaGreatDoor

/-
  Own text. Package noise: texts mixed into a state, sealing, opening, secrets.
-/
namespace Go.Proofs.YthghcjepdhkfdaaGreatDoor
open Go.RowKit Go.Proofs
set_option maxRecDepth 100000
/-- The hash with texts mixed in, one behind the other. -/
def mixL (H : Nat → Int) (ts : Nat → ByteArray) : Nat → Nat → Int
  | 0 => H
  | n + 1 => mixH (mixL H ts n) (ts n)
theorem mixL_b {H : Nat → Int} (hH : Byts 32 H) (ts : Nat → ByteArray) : ∀ n, Byts 32 (mixL H ts n)
  | 0 => hH
  | _ + 1 => mixH_b _ _ 32
set_option maxHeartbeats 4000000 in
theorem mixIn_run (b : Nat) (H C K : Nat → Int) (v : Value) (cnt : Nat) (ts : Nat → ByteArray) (w : World) (hE : Env w) (hb3 : 3 ≤ b) (g : KtAt w b H C K) (hH : Byts 32 H)
    (hv : ∀ w', Touch (fun x => x = b) w w' → Strs w' v cnt ts) (hcn : cnt ≤ 1000) (hsz : ∀ i, i < cnt → (ts i).size ≤ 562949953421312) :
    Calls Tryz.prog 117 #[.pointer (some ⟨b, 0, none⟩), v] w fun e w' => e = .returned (.tuple #[]) ∧ KtAt w' b (mixL H ts cnt) C K ∧ Touch (fun x => x = b) w w' := by
  obtain ⟨a, c, rfl, hp⟩ := hv w (Touch.refl _ _)
  have HV := Hid.mk hv
  have HSZ := Hid.mk hsz
  have HE : Hid (∀ u, Touch (fun x => x = b) w u → Env u) := Hid.mk (fun u hu => hE.touch hu hb3)
  clear hv hp hsz hE
  go_enter Tryz.func117, Tryz.ntmps117
  go_wp2_with fail
  go_loopg [8] cnt (fun gm iv v => ∃ i : Nat, Hid (gm + i = cnt) ∧ iv = .int .i64 (i : Int) ∧ KtAt v b (mixL H ts i) C K ∧ Touch (fun x => x = b) w v)
  case atStart => exact ⟨0, Hid.mk rfl, rfl, g, Touch.refl _ _⟩
  case round =>
    clear g
    obtain ⟨i, HI, rfl, g, ht⟩ := hrel
    have hin : i ≤ cnt := by have := HI.out; omega
    by_cases hil : i < cnt
    · obtain ⟨a', c', e, hp⟩ := HV.out wr ht
      simp only [Value.slice.injEq] at e
      obtain ⟨rfl, _, rfl⟩ := e
      obtain ⟨p, rfl, hc⟩ := hp (by omega)
      have hc1 := hc i hil
      have hE := HE.out wr ht
      clear hc hp
      have hHi := mixL_b hH ts i
      have HS : Hid (mixH (mixL H ts i) (ts i) = mixL H ts (i + 1)) := Hid.mk rfl
      have hss := HSZ.out i hil
      generalize mixL H ts i = Hi at *
      generalize ts i = s at *
      have hcv := str_cells b 0 32 wr Hi hHi g.h (cp := 32)
      have hd : decide ((i : Int) < (cnt : Int)) = true := by simp; omega
      go_wp2_with (refine wl_bs2 (s := mkS 32 Hi) (t := s) (by rfl) (by rfl) ?_; intro v5 hS5 hb5 hz5; refine Hid.out ?_)
      clear hcv hc1 hz5
      replace g := g.kept hb5
      replace hE := hE.kept hb5
      replace ht := ht.trans (belT b hb5)
      clear hb5
      refine Hid.mk ?_
      go_wp2_with fail
      refine (hSum_run _ 2 (two2 (mkS 32 Hi) s) _ hE.1 hS5 (by omega) (by rw [join2, ByteArray.size_append, mkS_size]; omega)).mono ?_
      rintro x v6 ⟨rfl, hb6⟩
      rw [join2]
      change KtAt v5 b Hi C K at g
      have HM : Hid (sumF (mkS 32 Hi ++ s) = mixL H ts (i + 1)) := Hid.mk HS.out
      replace g := g.kept hb6
      replace ht := ht.trans (belT b hb6)
      clear hb6 hS5 hE
      go_wp2_with (refine st_kth g (by rfl) (by rfl) ?_; intro v7 g7 o7; refine Hid.out ?_)
      rw [HM.out] at g7
      refine Hid.mk ?_
      go_wp2_with fail
      go_roundg (cnt - (i + 1))
      case rel => exact ⟨i + 1, Hid.mk (by omega), by go_num, g7, ht.trans (touch_only o7)⟩
      case measure => have := HI.out; omega
    · have hi2 : i = cnt := by omega
      subst hi2
      have hd : decide ((i : Int) < (i : Int)) = false := by simp
      go_wp2_with fail
      exact bodyPost_end (results_none rfl _ _ _) rfl ⟨rfl, g, ht⟩
set_option maxHeartbeats 1600000 in
theorem ephemeralIn_run (b : Nat) (H C K e : Nat → Int) (w : World) (hE : Env w) (hb3 : 3 ≤ b) (g : KtAt w b H C K) (hH : Byts 32 H) (hC : Byts 32 C) (he : Byts 32 e) :
    Calls Tryz.prog 79 #[.pointer (some ⟨b, 0, none⟩), .agg (WA .u8 32 e)] w fun x w' => x = .returned (.tuple #[]) ∧ KtAt w' b (mixH H (mkS 32 e)) (chn C (mkS 32 e) 0) K ∧ Touch (fun x => x = b) w w' := by
  have hbl := g.lt
  have hB : Below w.heap.size w (w.alloc (.cells (WA .u8 32 e) 22)) := (Below.refl _ w).alloc (Nat.le_refl _) _
  have g0 : ArrAt (w.alloc (.cells (WA .u8 32 e) 22)) w.heap.size .u8 22 32 e := heap_alloc_new w _
  have hcv := str_back 32 w.heap.size 32 _ 32 e g0.row he rfl
  have HE := Hid.mk (hE.kept hB)
  have HG := Hid.mk (g.kept hB)
  have ht := belT b hB
  clear hE g hB
  go_enter Tryz.func79, Tryz.ntmps79
  go_wp2_with fail
  refine (chainIn_run b H C K (mkS 32 e) _ HE.out HG.out hC (by rw [mkS_size]; omega)).mono ?_
  rintro x v1 ⟨rfl, g, t1⟩
  have hE := HE.out.touch t1 hb3
  replace g0 := g0.touch t1 (by omega)
  replace ht := ht.trans t1
  clear t1 hcv HE HG
  have hcv := str_back 32 w.heap.size 32 _ 32 e g0.row he rfl
  have hes : (mkS 32 e).size ≤ 562949953421312 := by rw [mkS_size]; omega
  obtain ⟨et, het⟩ : ∃ et, mkS 32 e = et := ⟨_, rfl⟩
  rw [het] at hes hcv g
  obtain ⟨C1, hC1⟩ : ∃ C1, chn C et 0 = C1 := ⟨_, rfl⟩
  rw [hC1] at g
  go_wp2_with (refine wl_bs1 (s := et) (by rfl) ?_; intro v5 hS5 hb5 hz5; refine Hid.out ?_)
  have hst := g.lt
  replace g := g.kept hb5
  replace hE := hE.kept hb5
  replace ht := ht.trans (belT b hb5)
  clear hz5
  refine Hid.mk ?_
  go_wp2_with fail
  refine (mixIn_run b H C1 K _ 1 (one1 et) _ hE hb3 g hH (fun u hu => hS5.touch (fun p n c hp => by cases hp; exact Nat.ne_of_gt hst) hu) (by omega) (fun i _ => hes)).mono ?_
  rintro x v6 ⟨rfl, g6, t6⟩
  go_wp2_with fail
  refine bodyPost_end (results_none rfl _ _ _) rfl ⟨rfl, ?_, ht.trans t6⟩
  rw [het, hC1]
  exact g6
set_option maxHeartbeats 1600000 in
theorem secret_no (f : Value) (M U : Nat → Int) (w : World) (hE : Env w) (hM : Byts 32 M) (hU : Byts 32 U) (hz : shZ M U = false) :
    Calls Tryz.prog 80 #[f, .agg (WA .u8 32 M), .agg (WA .u8 32 U)] w fun e w' => e = gup 18 ∧ Below w.heap.size w w' := by
  have hB : Below w.heap.size w ((w.alloc (.cells (WA .u8 32 M) 22)).alloc (.cells (WA .u8 32 U) 22)) := ((Below.refl _ w).alloc (by simp) _).alloc (by simp) _
  have g0 : ArrAt ((w.alloc (.cells (WA .u8 32 M) 22)).alloc (.cells (WA .u8 32 U) 22)) w.heap.size .u8 22 32 M := heap_alloc2_old w _ _
  have g1 : ArrAt ((w.alloc (.cells (WA .u8 32 M) 22)).alloc (.cells (WA .u8 32 U) 22)) (w.heap.size + 1) .u8 22 32 U := heap_alloc2_new w _ _
  have hEB := hE.kept hB
  have HP := Hid.mk hEB.2
  go_enter Tryz.func80, Tryz.ntmps80
  go_wp2_with (first | (refine ld_arr isArr32 g0 (by rfl) ?_) | (refine ld_arr isArr32 g1 (by rfl) ?_))
  refine (Shared_run M U _ HP.out hM hU).mono ?_
  rintro x v1 ⟨rfl, hb1⟩
  replace hB := hB.trans (hb1.mono hB.size)
  clear hb1 g0 g1 hEB HP
  rw [hz]
  generalize shF M U = S at *
  have hv1 := hB.size
  go_wp2_with (refine wl_alloc32 ?_; intro v2 gs hb2; refine Hid.out ?_)
  replace hB := hB.trans (hb2.mono hB.size)
  clear hb2
  refine Hid.mk ?_
  go_wp2_with (refine st_arr isArr32 gs (by rfl) (by rfl) ?_; intro v3 gs3 o3; refine Hid.out ?_)
  replace hB := hB.trans (o3.below hv1)
  clear o3 gs
  refine Hid.mk ?_
  go_wp2_with fail
  refine (need_no 18 _).mono ?_
  rintro x v4 ⟨rfl, rfl⟩
  exact ⟨rfl, rfl, hB⟩
theorem run_ktB (H C : Nat → Int) (w : World) : (Instr.build 121 #[(0, .agg (WA .u8 32 H)), (1, .agg (WA .u8 32 C))]).run Tryz.prog w = .ok (.agg (WA .u8 96 (ktF H C fun _ => 0))) w := by kernel_rfl
theorem exec_ktB {a : Act} {o : Oper} {w : World} {x y : Operand} (ho : o.op = .build 121 #[(0, x), (1, y)]) {H C : Nat → Int} (hx : a.eval x = .agg (WA .u8 32 H)) (hy : a.eval y = .agg (WA .u8 32 C)) : (execOp a.eval o).run Tryz.prog w = .ok (.value (.agg (WA .u8 96 (ktF H C fun _ => 0)))) w := by
  have h := run_ktB H C w
  unfold execOp
  simp only [ho, List.map_toArray, List.map_cons, List.map_nil, hx, hy, Sem.run_bind, h, Result.andThen_ok, Sem.run_pure]
theorem wl_boxK {ops : Array Oper} {rest : List Oper} {d : Option Tmp} {x : Operand} {t : TypeId} {ps : String} {af : Array Edge} {a : Act} {w : World} {Q : Exit → Act → World → Prop} {H C K : Nat → Int} (hx : a.eval x = .agg (WA .u8 96 (ktF H C K)))
    (h : ∀ w', KtAt w' w.heap.size H C K → Below w.heap.size w w' → wpList Tryz.prog ops Q rest (a.put d (.pointer (some ⟨w.heap.size, 0, none⟩))) w') :
    wpList Tryz.prog ops Q ({ dst := d, op := .box 121 x, type := t, pos := ps, after := af, guard := none } :: rest) a w := by
  refine wl_act rfl ?_
  unfold Oper.wp execOp
  simp only [hx]
  simp [go_sem]
  exact h _ (heap_alloc_new w _) ((Below.refl _ _).alloc (Nat.le_refl _) _)
end Go.Proofs.YthghcjepdhkfdaaGreatDoor

/-
  Own text. Package noise: the beginning of a handshake.
-/
namespace Go.Proofs.YthghcjepdhkfdaaGreatDoor
open Go.RowKit Go.Proofs
set_option maxRecDepth 100000
theorem mixL2 (H : Nat → Int) (s t : ByteArray) : mixL H (two2 s t) 2 = mixH (mixH H s) t := by simp only [mixL, two2]
set_option maxHeartbeats 1600000 in
theorem beginning_gen (t C0 : Nat → Int) (w : World) (hE : Env w) (ht : Byts 32 t) (hC0 : Byts 32 C0)
    (hS : ∀ u v, Tabs u → Strs u v 1 (one1 ⟨#[78, 111, 105, 115, 101, 95, 73, 75, 112, 115, 107, 50, 95, 50, 53, 53, 49, 57, 95, 67, 104, 97, 67, 104, 97, 80, 111, 108, 121, 95, 66, 76, 65, 75, 69, 50, 115]⟩) → Calls Tryz.prog 107 #[v] u fun e w' => e = .returned (.agg (WA .u8 32 C0)) ∧ Below u.heap.size u w') :
    Calls Tryz.prog 78 #[.agg (WA .u8 32 t)] w fun e w' => ∃ b, w.heap.size ≤ b ∧ e = .returned (.pointer (some ⟨b, 0, none⟩)) ∧ KtAt w' b (mixH (mixH C0 ⟨#[97, 100, 105, 116, 32, 49]⟩) (mkS 32 t)) C0 (fun _ => 0) ∧ Below w.heap.size w w' := by
  have hB : Below w.heap.size w (w.alloc (.cells (WA .u8 32 t) 22)) := (Below.refl _ w).alloc (Nat.le_refl _) _
  have g0 : ArrAt (w.alloc (.cells (WA .u8 32 t) 22)) w.heap.size .u8 22 32 t := heap_alloc_new w _
  have hE1 := Hid.mk (hE.kept hB)
  have h3 := hE.two
  clear hE
  go_enter Tryz.func78, Tryz.ntmps78
  go_wp2_with (refine wl_bs1 (s := ⟨#[78, 111, 105, 115, 101, 95, 73, 75, 112, 115, 107, 50, 95, 50, 53, 53, 49, 57, 95, 67, 104, 97, 67, 104, 97, 80, 111, 108, 121, 95, 66, 76, 65, 75, 69, 50, 115]⟩) (by rfl) ?_; intro v1 hS1 hb1 hz1; refine Hid.out ?_)
  have e1 : ∀ o, (w.alloc o).heap.size = w.heap.size + 1 := fun o => by simp
  rw [e1] at hS1
  have hE := hE1.out.kept hb1
  replace hB := hB.trans (hb1.mono hB.size)
  replace g0 := g0.kept hb1
  clear hE1 hz1 hb1 e1
  refine Hid.mk ?_
  go_wp2_with fail
  refine (hS _ _ hE.1 hS1).mono ?_
  rintro x v2 ⟨rfl, hb2⟩
  replace hE := hE.kept hb2
  replace hB := hB.trans (hb2.mono hB.size)
  replace g0 := g0.kept hb2
  clear hb2 hS1 hS
  have hlt := g0.lt
  have hB2 := hB.size
  go_wp2_with (refine wl_alloc32 ?_; intro v3 gn hb3; refine Hid.out ?_)
  replace hE := hE.kept hb3
  replace hB := hB.trans (hb3.mono hB.size)
  replace g0 := g0.kept hb3
  clear hb3
  refine Hid.mk ?_
  go_wp2_with (refine st_arr isArr32 gn (by rfl) (by rfl) ?_; intro v4 gn4 o4; refine Hid.out ?_)
  replace hE := hE.only o4 (by omega)
  replace hB := hB.trans (o4.below hB2)
  replace g0 := g0.only o4 (by omega)
  clear o4 gn
  refine Hid.mk ?_
  have hB4 := hB.size
  go_wp2_with (first | (refine ld_arr isArr32 gn4 (by rfl) ?_) | (refine wl_value rfl (exec_ktB rfl (by rfl) (by rfl)) ?_) | (refine wl_boxK (by rfl) ?_; intro v5 g5 hb5; refine Hid.out ?_))
  have hb3 : 3 ≤ v4.heap.size := by omega
  have hg04 := g0.lt
  replace hE := hE.kept hb5
  replace hB := hB.trans (hb5.mono hB.size)
  replace g0 := g0.kept hb5
  clear hb5 gn4
  refine Hid.mk ?_
  obtain ⟨b, hb⟩ : ∃ b, v4.heap.size = b := ⟨_, rfl⟩
  rw [hb] at g5 hb3 hB4 hg04 ⊢
  clear hb
  have hcv := str_back 32 w.heap.size 32 v5 32 t g0.row ht rfl
  go_wp2_with (refine wl_bs2 (s := ⟨#[97, 100, 105, 116, 32, 49]⟩) (t := mkS 32 t) (by rfl) (by rfl) ?_; intro v6 hS6 hb6 hz6; refine Hid.out ?_)
  have hst := g5.lt
  replace hE := hE.kept hb6
  replace hB := hB.trans (hb6.mono hB.size)
  replace g5 := g5.kept hb6
  clear hb6 hcv hz6
  refine Hid.mk ?_
  go_wp2_with fail
  refine (mixIn_run b C0 C0 _ _ 2 (two2 ⟨#[97, 100, 105, 116, 32, 49]⟩ (mkS 32 t)) _ hE hb3 g5 hC0 (fun u hu => hS6.touch (fun p n c hp => by cases hp; exact Nat.ne_of_gt hst) hu) (by omega) (fun i hi => by
    match i, hi with
    | 0, _ => exact (show (6 : Nat) ≤ 562949953421312 by omega)
    | 1, _ => show (mkS 32 t).size ≤ _; rw [mkS_size]; omega)).mono ?_
  rintro x v7 ⟨rfl, g7, t7⟩
  rw [mixL2] at g7
  go_wp2_with fail
  go_ret
  exact ⟨b, hB4, rfl, g7, belowT hB t7 hB4 (Nat.le_refl _)⟩
theorem beginning_run (t : Nat → Int) (w : World) (hE : Env w) (ht : Byts 32 t) :
    Calls Tryz.prog 78 #[.agg (WA .u8 32 t)] w fun e w' => ∃ b, w.heap.size ≤ b ∧ e = .returned (.pointer (some ⟨b, 0, none⟩)) ∧ KtAt w' b (begH t) begC (fun _ => 0) ∧ Below w.heap.size w w' :=
  beginning_gen t begC w hE ht (begC_b 32) (fun u v hT hS => by
    have h := hSum_run v 1 (one1 ⟨#[78, 111, 105, 115, 101, 95, 73, 75, 112, 115, 107, 50, 95, 50, 53, 53, 49, 57, 95, 67, 104, 97, 67, 104, 97, 80, 111, 108, 121, 95, 66, 76, 65, 75, 69, 50, 115]⟩) u hT hS (by omega) (by rw [join1]; exact (show (37 : Nat) ≤ 1152921504606846976 by omega))
    rw [join1] at h
    exact h)
end Go.Proofs.YthghcjepdhkfdaaGreatDoor

/-
  Own text. The document's answer for noise: the second message.
-/
namespace Go.Proofs.YthghcjepdhkfdaaGreatDoor
open Go.RowKit Go.Proofs
set_option maxRecDepth 100000
end Go.Proofs.YthghcjepdhkfdaaGreatDoor

/-
  Own text. What Accept and Finish answer; four bytes and their number; the ends' secrets are one.
-/
namespace Go.Proofs.YthghcjepdhkfdaaGreatDoor
open Go.RowKit Go.Proofs
set_option maxRecDepth 100000
end Go.Proofs.YthghcjepdhkfdaaGreatDoor

/-
  Own text. Package noise: messages.
-/
namespace Go.Proofs.YthghcjepdhkfdaaGreatDoor
open Go.RowKit Go.Proofs
set_option maxRecDepth 100000
theorem needForm_no (m : ByteArray) (size : Nat) (kind : Int) (w : World) (hm : ¬ (m.size = size ∧ numA m 0 4 = kind)) (hs : 4 ≤ size) :
    Calls Tryz.prog 131 #[.string m, .int .i64 (size : Int), .int .u32 kind] w fun x w' => x = gup (if m.size = size then 11 else 10) ∧ w' = w := by
  by_cases hz : m.size = size
  · rw [if_pos hz]
    have h1 : ((m.size : Int) == (size : Int)) = true := by rw [hz]; simp
    have h2 : (numA m 0 4 == kind) = false := by simpa using fun h => hm ⟨hz, h⟩
    clear hm
    go_enter Tryz.func131, Tryz.ntmps131
    go_wp2_with fail
    refine (need_ok 10 _).mono ?_
    rintro x v1 ⟨rfl, rfl⟩
    go_wp2_with fail
    refine (numberAt_run m 0 _ (by omega) (by omega)).mono ?_
    rintro x v2 ⟨rfl, rfl⟩
    go_wp2_with fail
    refine (need_no 11 _).mono ?_
    rintro x v3 ⟨rfl, rfl⟩
    exact ⟨rfl, rfl, rfl⟩
  · rw [if_neg hz]
    have h1 : ((m.size : Int) == (size : Int)) = false := by simp; omega
    clear hm
    go_enter Tryz.func131, Tryz.ntmps131
    go_wp2_with fail
    refine (need_no 10 _).mono ?_
    rintro x v1 ⟨rfl, rfl⟩
    exact ⟨rfl, rfl, rfl⟩
/-- The parts of an initiation, of a response, of a cookie message. -/
def iniV (ix : Int) (E : Nat → Int) (k s : ByteArray) (i : Nat) : Value := if i < 1 then .int .u32 ix else if i < 33 then .int .u8 (E (i - 1)) else if i < 34 then .string k else .string s
def iniZ : Nat → Value := iniV 0 (fun _ => 0) ⟨#[]⟩ ⟨#[]⟩
set_option maxHeartbeats 1600000 in
theorem iniOf_no (m : ByteArray) (w : World) (hm : ¬ (m.size = 148 ∧ numA m 0 4 = 1)) :
    Calls Tryz.prog 87 #[.string m] w fun x w' => x = gup (if m.size = 148 then 11 else 10) ∧ Below w.heap.size w w' := by
  have g0 : SAt (w.alloc (.cells (SC 35 (iniZ)) 118)) w.heap.size 118 35 (iniZ) := heap_alloc_new w _
  have hB : Below w.heap.size w (w.alloc (.cells (SC 35 (iniZ)) 118)) := (Below.refl _ w).alloc (Nat.le_refl _) _
  go_enter Tryz.func87, Tryz.ntmps87
  go_wp2_with fail
  refine (needForm_no m 148 1 _ hm (by omega)).mono ?_
  rintro x v1 ⟨rfl, rfl⟩
  exact ⟨rfl, rfl, hB⟩
end Go.Proofs.YthghcjepdhkfdaaGreatDoor

/-
  Own text. Package noise: the shared key, the keys of a keypair.
-/
namespace Go.Proofs.YthghcjepdhkfdaaGreatDoor
open Go.RowKit Go.Proofs
set_option maxRecDepth 100000
theorem touch_GT {v0 : World} {T : Nat → Prop} {G : List (Nat × Cont)} (hG : ∀ k ∈ G.map (·.1), T k) (w w' : World) (h : Touch T v0 w) (ht : Touch (fun k => v0.heap.size ≤ k ∨ k ∈ G.map (·.1)) w w') : Touch T v0 w' :=
  ⟨ht.os.trans h.os, ht.tape.trans h.tape, ht.output.trans h.output, Nat.le_trans h.size ht.size, fun k hk hn => (ht.block k (by have := h.size; omega) (fun e => e.elim (fun e => by omega) (fun e => hn (hG k e)))).trans (h.block k hk hn)⟩
end Go.Proofs.YthghcjepdhkfdaaGreatDoor

/-
  Own text. Package noise: Begin and Accept, by their steps.
-/
namespace Go.Proofs.YthghcjepdhkfdaaGreatDoor
open Go.RowKit Go.Proofs
set_option maxRecDepth 100000
theorem touch_tr {T : Nat → Prop} {u v w : World} (h : Touch T u v) (k : Touch T v w) : Touch T u w := ⟨k.os.trans h.os, k.tape.trans h.tape, k.output.trans h.output, Nat.le_trans h.size k.size, fun q hq hn => (k.block q (by have := h.size; omega) hn).trans (h.block q hq hn)⟩
theorem heap_at_alloc (w : World) (o : Obj) (n : Nat) (h : w.heap.size = n) : (w.alloc o).heap[n]? = some o := by
  subst h
  exact heap_alloc_new w o
theorem heap_keep_alloc {w : World} (o : Obj) {k : Nat} {x : Obj} (h : w.heap[k]? = some x) : (w.alloc o).heap[k]? = some x := (Below.heap_alloc _ _ _ (heap_lt h)).trans h
/-- A variable of one cell. -/
def CAt (w : World) (b : Nat) (ty : TypeId) (v : Value) : Prop := w.heap[b]? = some (.cells #[v] ty (0, 0))
section
variable {w w' : World} {b : Nat} {ty : TypeId} {v : Value}
theorem CAt.lt (h : CAt w b ty v) : b < w.heap.size := heap_lt h
theorem CAt.block (h : CAt w b ty v) (e : w'.heap[b]? = w.heap[b]?) : CAt w' b ty v := e.trans h
theorem CAt.kept (h : CAt w b ty v) (hb : Below w.heap.size w w') : CAt w' b ty v := h.block (hb.block b h.lt)
theorem CAt.only {g : Nat} (h : CAt w b ty v) (o : Only g w w') (hg : b ≠ g) : CAt w' b ty v := h.block (o.block b hg)
theorem CAt.at (h : CAt w b ty v) : w.cell? ⟨b, 0, none⟩ = some v := cell_of_row w b 0 _ _ _ h
theorem CAt.free (h : CAt w b ty v) : w.frozen? ⟨b, 0, none⟩ = false := frozen_of_row w b 0 _ _ h
theorem CAt.set (h : CAt w b ty v) (x : Value) : CAt (w.setCell ⟨b, 0, none⟩ x) b ty x := by
  have h2 := heap_setCell_same w b 0 _ ty x h
  unfold CAt
  simpa using h2
end
theorem res_sat {fn : Func} {p q r : Tmp} {ty ty' : TypeId} (h : fn.results = #[.cell p ty, .cell q ty', .tmp r]) {tmps : Array Value} {w : World} {g g' n n' : Nat} {k' : IntKind} {V : Nat → Value} {s' : Nat → Int} {x : Value} (hA : IsSt ty n) (hA' : IsArr ty' n') (hg : SAt w g ty n V) (hg' : ArrAt w g' k' ty' n' s') (hp : tmps.getD p undef = .pointer (some ⟨g, 0, none⟩)) (hq : tmps.getD q undef = .pointer (some ⟨g', 0, none⟩)) (hr : tmps.getD r undef = x) :
    (results fn tmps).run Tryz.prog w = .ok (.tuple #[.agg (SC n V), .agg (WA k' n' s'), x]) w := by
  obtain ⟨d, h1, h2, h3⟩ := hA
  obtain ⟨m', e', h1', h3'⟩ := hA'
  have hp' : tmps[p]?.getD undef = .pointer (some ⟨g, 0, none⟩) := by simpa using hp
  have hq' : tmps[q]?.getD undef = .pointer (some ⟨g', 0, none⟩) := by simpa using hq
  have hr' : tmps[r]?.getD undef = x := by simpa using hr
  have e1 := run_loadVar_row (P := Tryz.prog) w g ty ty (SC n V) (0, 0) _ hg h1 (by cases d <;> first | rfl | exact h2) (by rw [SC_size]; exact h3)
  have e2 := run_loadVar_row (P := Tryz.prog) w g' ty' ty' (WA k' n' s') (0, 0) _ hg' h1' rfl (by rw [WA_size]; exact h3')
  simp [results, h, hp', hq', hr', asAddr, e1, e2]
theorem enterBeginCl (args : Array Value) (w : World) : (callFunc 35 args).run Tryz.prog w = .ok (.enter 35 args) w := by kernel_rfl
set_option maxHeartbeats 1600000 in
theorem Begin_cl (b0 b1 b2 b3 b4 b5 b6 : Nat) (O : Nat → Int) (P : Nat → Int) (E : Nat → Int) (T : Nat → Int) (ix : Int) (MS : ByteArray) (V : Nat → Value) (u : World) (hE : Env u) (c0 : ArrAt u b0 .u8 22 32 O) (c1 : ArrAt u b1 .u8 22 32 P) (c2 : ArrAt u b2 .u8 22 32 E) (c3 : ArrAt u b3 .u8 26 12 T) (c4 : CAt u b4 23 (.int .u32 ix)) (c5 : CAt u b5 9 (.string ⟨#[]⟩)) (c6 : SAt u b6 31 162 hanZ) (h1V : ∀ i, (V i).oneCell' = true) (hne : b5 ≠ b6) 
    (hst : ∀ u, Env u → Calls Tryz.prog 36 #[.agg (WA .u8 32 O), .agg (WA .u8 32 P), .agg (WA .u8 32 E), .agg (WA .u8 12 T), .int .u32 ix] u fun e w' => e = .returned (.tuple #[.string MS, .agg (SC 162 V)]) ∧ Below u.heap.size u w') :
    Calls Tryz.prog 35 #[.pointer (some ⟨b0, 0, none⟩), .pointer (some ⟨b1, 0, none⟩), .pointer (some ⟨b2, 0, none⟩), .pointer (some ⟨b3, 0, none⟩), .pointer (some ⟨b4, 0, none⟩), .pointer (some ⟨b5, 0, none⟩), .pointer (some ⟨b6, 0, none⟩)] u fun e w' => e = .returned (.tuple #[]) ∧ CAt w' b5 9 (.string MS) ∧ SAt w' b6 31 162 V ∧ Touch (fun x => x = b5 ∨ x = b6) u w' := by
  have touch_or0 : ∀ {p q : World}, Only b5 p q → Touch (fun x => x = b5 ∨ x = b6) p q := fun o => ⟨o.os, o.tape, o.output, by rw [o.size]; exact Nat.le_refl _, fun k _ hn => o.block k (fun h => hn (by simp [h]))⟩
  have touch_or1 : ∀ {p q : World}, Only b6 p q → Touch (fun x => x = b5 ∨ x = b6) p q := fun o => ⟨o.os, o.tape, o.output, by rw [o.size]; exact Nat.le_refl _, fun k _ hn => o.block k (fun h => hn (by simp [h]))⟩
  have e4 := c4.at
  go_enter Tryz.func35, Tryz.ntmps35
  go_wp2_with (first | (refine ld_arr isArr32 c0 (by rfl) ?_) | (refine ld_arr isArr32 c1 (by rfl) ?_) | (refine ld_arr isArr32 c2 (by rfl) ?_) | (refine ld_arr isArr12 c3 (by rfl) ?_))
  refine (hst _ hE).mono ?_
  rintro x v1 ⟨rfl, hb⟩
  replace c5 := c5.kept hb
  replace c6 := c6.kept hb
  have ht : Touch (fun x => x = b5 ∨ x = b6) u v1 := touch_le hb
  clear hb
  have s0 := c5.at
  have z0 := c5.free
  have d0 := Hid.mk (c5.set (.string MS))
  have ht0 : Touch (fun x => x = b5 ∨ x = b6) u (v1.setCell ⟨b5, 0, none⟩ (.string MS)) := touch_tr ht (touch_or0 only_set)
  replace c6 := c6.only (only_set (w := v1) (g := b5) (i := 0) (v := .string MS)) (Ne.symm hne)
  replace ht := ht0
  clear ht0 c5
  go_wp2_with (refine st_st isHand h1V c6 (by rfl) (by rfl) ?_; intro y1 d10 o1; refine Hid.out ?_)
  have d1 := Hid.mk d10
  replace d0 := Hid.mk (d0.out.only o1 hne)
  replace ht := touch_tr ht (touch_or1 o1)
  clear d10 o1
  refine Hid.mk ?_
  go_wp2_with fail
  exact bodyPost_end (results_none rfl _ _ _) rfl ⟨rfl, d0.out, d1.out, ht⟩
set_option maxHeartbeats 1600000 in
theorem Begin_cn (b0 b1 b2 b3 b4 b5 b6 : Nat) (O : Nat → Int) (P : Nat → Int) (E : Nat → Int) (T : Nat → Int) (ix : Int) (X : Int) (u : World) (hE : Env u) (c0 : ArrAt u b0 .u8 22 32 O) (c1 : ArrAt u b1 .u8 22 32 P) (c2 : ArrAt u b2 .u8 22 32 E) (c3 : ArrAt u b3 .u8 26 12 T) (c4 : CAt u b4 23 (.int .u32 ix))
    (hst : ∀ u, Env u → Calls Tryz.prog 36 #[.agg (WA .u8 32 O), .agg (WA .u8 32 P), .agg (WA .u8 32 E), .agg (WA .u8 12 T), .int .u32 ix] u fun e w' => e = gup X ∧ Below u.heap.size u w') :
    Calls Tryz.prog 35 #[.pointer (some ⟨b0, 0, none⟩), .pointer (some ⟨b1, 0, none⟩), .pointer (some ⟨b2, 0, none⟩), .pointer (some ⟨b3, 0, none⟩), .pointer (some ⟨b4, 0, none⟩), .pointer (some ⟨b5, 0, none⟩), .pointer (some ⟨b6, 0, none⟩)] u fun e w' => e = gup X ∧ Below u.heap.size u w' := by
  have e4 := c4.at
  go_enter Tryz.func35, Tryz.ntmps35
  go_wp2_with (first | (refine ld_arr isArr32 c0 (by rfl) ?_) | (refine ld_arr isArr32 c1 (by rfl) ?_) | (refine ld_arr isArr32 c2 (by rfl) ?_) | (refine ld_arr isArr12 c3 (by rfl) ?_))
  refine (hst _ hE).mono ?_
  rintro x v1 ⟨rfl, hb⟩
  exact ⟨rfl, rfl, hb⟩
set_option linter.unusedVariables false in
set_option maxHeartbeats 4000000 in
set_option maxRecDepth 100000 in
theorem Begin_ok (O : Nat → Int) (P : Nat → Int) (E : Nat → Int) (T : Nat → Int) (ix : Int) (MS : ByteArray) (V : Nat → Value) (w : World) (hE : Env w) (h1V : ∀ i, (V i).oneCell' = true)
    (hst : ∀ u, Env u → Calls Tryz.prog 36 #[.agg (WA .u8 32 O), .agg (WA .u8 32 P), .agg (WA .u8 32 E), .agg (WA .u8 12 T), .int .u32 ix] u fun e w' => e = .returned (.tuple #[.string MS, .agg (SC 162 V)]) ∧ Below u.heap.size u w') :
    Calls Tryz.prog 9 #[.agg (WA .u8 32 O), .agg (WA .u8 32 P), .agg (WA .u8 32 E), .agg (WA .u8 12 T), .int .u32 ix] w fun e w' => e = .returned (.tuple #[.string MS, .agg (SC 162 V), .int .i64 0]) ∧ Below w.heap.size w w' := by
  have hB : Below w.heap.size w ((((((((w.alloc (.cells (WA .u8 32 O) 22)).alloc (.cells (WA .u8 32 P) 22)).alloc (.cells (WA .u8 32 E) 22)).alloc (.cells (WA .u8 12 T) 26)).alloc (.cells #[.int .u32 ix] 23)).alloc (.cells Tryz.zeroCells31 31)).alloc (.cells #[.string ⟨#[]⟩] 9)).alloc (.cells Tryz.zeroCells31 31)) := ((((((((Below.refl _ w).alloc (by simp) _).alloc (by simp) _).alloc (by simp; omega) _).alloc (by simp; omega) _).alloc (by simp; omega) _).alloc (by simp; omega) _).alloc (by simp; omega) _).alloc (by simp; omega) _
  have g0 : ArrAt ((((((((w.alloc (.cells (WA .u8 32 O) 22)).alloc (.cells (WA .u8 32 P) 22)).alloc (.cells (WA .u8 32 E) 22)).alloc (.cells (WA .u8 12 T) 26)).alloc (.cells #[.int .u32 ix] 23)).alloc (.cells Tryz.zeroCells31 31)).alloc (.cells #[.string ⟨#[]⟩] 9)).alloc (.cells Tryz.zeroCells31 31)) w.heap.size .u8 22 32 O := heap_keep_alloc _ (heap_keep_alloc _ (heap_keep_alloc _ (heap_keep_alloc _ (heap_keep_alloc _ (heap_keep_alloc _ (heap_keep_alloc _ (heap_at_alloc w _ w.heap.size (by simp))))))))
  have g1 : ArrAt ((((((((w.alloc (.cells (WA .u8 32 O) 22)).alloc (.cells (WA .u8 32 P) 22)).alloc (.cells (WA .u8 32 E) 22)).alloc (.cells (WA .u8 12 T) 26)).alloc (.cells #[.int .u32 ix] 23)).alloc (.cells Tryz.zeroCells31 31)).alloc (.cells #[.string ⟨#[]⟩] 9)).alloc (.cells Tryz.zeroCells31 31)) (w.heap.size + 1) .u8 22 32 P := heap_keep_alloc _ (heap_keep_alloc _ (heap_keep_alloc _ (heap_keep_alloc _ (heap_keep_alloc _ (heap_keep_alloc _ (heap_at_alloc (w.alloc (.cells (WA .u8 32 O) 22)) _ (w.heap.size + 1) (by simp)))))))
  have g2 : ArrAt ((((((((w.alloc (.cells (WA .u8 32 O) 22)).alloc (.cells (WA .u8 32 P) 22)).alloc (.cells (WA .u8 32 E) 22)).alloc (.cells (WA .u8 12 T) 26)).alloc (.cells #[.int .u32 ix] 23)).alloc (.cells Tryz.zeroCells31 31)).alloc (.cells #[.string ⟨#[]⟩] 9)).alloc (.cells Tryz.zeroCells31 31)) (w.heap.size + 1 + 1) .u8 22 32 E := heap_keep_alloc _ (heap_keep_alloc _ (heap_keep_alloc _ (heap_keep_alloc _ (heap_keep_alloc _ (heap_at_alloc ((w.alloc (.cells (WA .u8 32 O) 22)).alloc (.cells (WA .u8 32 P) 22)) _ (w.heap.size + 1 + 1) (by simp))))))
  have g3 : ArrAt ((((((((w.alloc (.cells (WA .u8 32 O) 22)).alloc (.cells (WA .u8 32 P) 22)).alloc (.cells (WA .u8 32 E) 22)).alloc (.cells (WA .u8 12 T) 26)).alloc (.cells #[.int .u32 ix] 23)).alloc (.cells Tryz.zeroCells31 31)).alloc (.cells #[.string ⟨#[]⟩] 9)).alloc (.cells Tryz.zeroCells31 31)) (w.heap.size + 1 + 1 + 1) .u8 26 12 T := heap_keep_alloc _ (heap_keep_alloc _ (heap_keep_alloc _ (heap_keep_alloc _ (heap_at_alloc (((w.alloc (.cells (WA .u8 32 O) 22)).alloc (.cells (WA .u8 32 P) 22)).alloc (.cells (WA .u8 32 E) 22)) _ (w.heap.size + 1 + 1 + 1) (by simp)))))
  have g4 : CAt ((((((((w.alloc (.cells (WA .u8 32 O) 22)).alloc (.cells (WA .u8 32 P) 22)).alloc (.cells (WA .u8 32 E) 22)).alloc (.cells (WA .u8 12 T) 26)).alloc (.cells #[.int .u32 ix] 23)).alloc (.cells Tryz.zeroCells31 31)).alloc (.cells #[.string ⟨#[]⟩] 9)).alloc (.cells Tryz.zeroCells31 31)) (w.heap.size + 1 + 1 + 1 + 1) 23 (.int .u32 ix) := heap_keep_alloc _ (heap_keep_alloc _ (heap_keep_alloc _ (heap_at_alloc ((((w.alloc (.cells (WA .u8 32 O) 22)).alloc (.cells (WA .u8 32 P) 22)).alloc (.cells (WA .u8 32 E) 22)).alloc (.cells (WA .u8 12 T) 26)) _ (w.heap.size + 1 + 1 + 1 + 1) (by simp))))
  have g5 : SAt ((((((((w.alloc (.cells (WA .u8 32 O) 22)).alloc (.cells (WA .u8 32 P) 22)).alloc (.cells (WA .u8 32 E) 22)).alloc (.cells (WA .u8 12 T) 26)).alloc (.cells #[.int .u32 ix] 23)).alloc (.cells Tryz.zeroCells31 31)).alloc (.cells #[.string ⟨#[]⟩] 9)).alloc (.cells Tryz.zeroCells31 31)) (w.heap.size + 1 + 1 + 1 + 1 + 1) 31 162 hanZ := by
    have h : (((((((((w.alloc (.cells (WA .u8 32 O) 22)).alloc (.cells (WA .u8 32 P) 22)).alloc (.cells (WA .u8 32 E) 22)).alloc (.cells (WA .u8 12 T) 26)).alloc (.cells #[.int .u32 ix] 23)).alloc (.cells Tryz.zeroCells31 31)).alloc (.cells #[.string ⟨#[]⟩] 9)).alloc (.cells Tryz.zeroCells31 31))).heap[(w.heap.size + 1 + 1 + 1 + 1 + 1)]? = some (.cells Tryz.zeroCells31 31) := heap_keep_alloc _ (heap_keep_alloc _ (heap_at_alloc (((((w.alloc (.cells (WA .u8 32 O) 22)).alloc (.cells (WA .u8 32 P) 22)).alloc (.cells (WA .u8 32 E) 22)).alloc (.cells (WA .u8 12 T) 26)).alloc (.cells #[.int .u32 ix] 23)) _ (w.heap.size + 1 + 1 + 1 + 1 + 1) (by simp)))
    unfold SAt
    rw [← zeroHand]
    exact h
  have g6 : CAt ((((((((w.alloc (.cells (WA .u8 32 O) 22)).alloc (.cells (WA .u8 32 P) 22)).alloc (.cells (WA .u8 32 E) 22)).alloc (.cells (WA .u8 12 T) 26)).alloc (.cells #[.int .u32 ix] 23)).alloc (.cells Tryz.zeroCells31 31)).alloc (.cells #[.string ⟨#[]⟩] 9)).alloc (.cells Tryz.zeroCells31 31)) (w.heap.size + 1 + 1 + 1 + 1 + 1 + 1) 9 (.string ⟨#[]⟩) := heap_keep_alloc _ (heap_at_alloc ((((((w.alloc (.cells (WA .u8 32 O) 22)).alloc (.cells (WA .u8 32 P) 22)).alloc (.cells (WA .u8 32 E) 22)).alloc (.cells (WA .u8 12 T) 26)).alloc (.cells #[.int .u32 ix] 23)).alloc (.cells Tryz.zeroCells31 31)) _ (w.heap.size + 1 + 1 + 1 + 1 + 1 + 1) (by simp))
  have g7 : SAt ((((((((w.alloc (.cells (WA .u8 32 O) 22)).alloc (.cells (WA .u8 32 P) 22)).alloc (.cells (WA .u8 32 E) 22)).alloc (.cells (WA .u8 12 T) 26)).alloc (.cells #[.int .u32 ix] 23)).alloc (.cells Tryz.zeroCells31 31)).alloc (.cells #[.string ⟨#[]⟩] 9)).alloc (.cells Tryz.zeroCells31 31)) (w.heap.size + 1 + 1 + 1 + 1 + 1 + 1 + 1) 31 162 hanZ := by
    have h : (((((((((w.alloc (.cells (WA .u8 32 O) 22)).alloc (.cells (WA .u8 32 P) 22)).alloc (.cells (WA .u8 32 E) 22)).alloc (.cells (WA .u8 12 T) 26)).alloc (.cells #[.int .u32 ix] 23)).alloc (.cells Tryz.zeroCells31 31)).alloc (.cells #[.string ⟨#[]⟩] 9)).alloc (.cells Tryz.zeroCells31 31))).heap[(w.heap.size + 1 + 1 + 1 + 1 + 1 + 1 + 1)]? = some (.cells Tryz.zeroCells31 31) := heap_at_alloc (((((((w.alloc (.cells (WA .u8 32 O) 22)).alloc (.cells (WA .u8 32 P) 22)).alloc (.cells (WA .u8 32 E) 22)).alloc (.cells (WA .u8 12 T) 26)).alloc (.cells #[.int .u32 ix] 23)).alloc (.cells Tryz.zeroCells31 31)).alloc (.cells #[.string ⟨#[]⟩] 9)) _ (w.heap.size + 1 + 1 + 1 + 1 + 1 + 1 + 1) (by simp)
    unfold SAt
    rw [← zeroHand]
    exact h
  replace hE := hE.kept hB
  have hss : (((((((((w.alloc (.cells (WA .u8 32 O) 22)).alloc (.cells (WA .u8 32 P) 22)).alloc (.cells (WA .u8 32 E) 22)).alloc (.cells (WA .u8 12 T) 26)).alloc (.cells #[.int .u32 ix] 23)).alloc (.cells Tryz.zeroCells31 31)).alloc (.cells #[.string ⟨#[]⟩] 9)).alloc (.cells Tryz.zeroCells31 31))).heap.size = w.heap.size + 1 + 1 + 1 + 1 + 1 + 1 + 1 + 1 := by simp
  have hAt := attempt_run 35 #[.pointer (some ⟨w.heap.size, 0, none⟩), .pointer (some ⟨(w.heap.size + 1), 0, none⟩), .pointer (some ⟨(w.heap.size + 1 + 1), 0, none⟩), .pointer (some ⟨(w.heap.size + 1 + 1 + 1), 0, none⟩), .pointer (some ⟨(w.heap.size + 1 + 1 + 1 + 1), 0, none⟩), .pointer (some ⟨(w.heap.size + 1 + 1 + 1 + 1 + 1 + 1), 0, none⟩), .pointer (some ⟨(w.heap.size + 1 + 1 + 1 + 1 + 1 + 1 + 1), 0, none⟩)] (fun x => x = (w.heap.size + 1 + 1 + 1 + 1 + 1 + 1) ∨ x = (w.heap.size + 1 + 1 + 1 + 1 + 1 + 1 + 1)) (fun x v => x = 0 ∧ CAt v (w.heap.size + 1 + 1 + 1 + 1 + 1 + 1) 9 (.string MS) ∧ SAt v (w.heap.size + 1 + 1 + 1 + 1 + 1 + 1 + 1) 31 162 V) ((((((((w.alloc (.cells (WA .u8 32 O) 22)).alloc (.cells (WA .u8 32 P) 22)).alloc (.cells (WA .u8 32 E) 22)).alloc (.cells (WA .u8 12 T) 26)).alloc (.cells #[.int .u32 ix] 23)).alloc (.cells Tryz.zeroCells31 31)).alloc (.cells #[.string ⟨#[]⟩] 9)).alloc (.cells Tryz.zeroCells31 31)) enterBeginCl (fun x hx => by simp at hx ⊢; omega) (fun u hu => by
    refine ((Begin_cl w.heap.size (w.heap.size + 1) (w.heap.size + 1 + 1) (w.heap.size + 1 + 1 + 1) (w.heap.size + 1 + 1 + 1 + 1) (w.heap.size + 1 + 1 + 1 + 1 + 1 + 1) (w.heap.size + 1 + 1 + 1 + 1 + 1 + 1 + 1) O P E T ix MS V u (hE.kept hu) (g0.kept hu) (g1.kept hu) (g2.kept hu) (g3.kept hu) (g4.kept hu) (g6.kept hu) (g7.kept hu) h1V (by omega) hst).mono ?_)
    rintro e v ⟨rfl, p0, p1, ht⟩
    exact ⟨ht, 0, .inl ⟨rfl, rfl⟩, rfl, p0, p1⟩)
  have hmf : ∀ (fn : Fn) (first cap : Array Value) (w : World), (Instr.makeFunc fn first cap).run Tryz.prog w = .ok (.func fn first cap) w := fun _ _ _ _ => rfl
  go_enter Tryz.func9, Tryz.ntmps9
  go_wp2_with fail
  refine hAt.mono ?_
  rintro e v0 ⟨x, vc, rfl, ⟨hx, p0, p1⟩, tT, hb⟩
  have hx' := hx.symm
  clear hx
  subst hx'
  clear hAt hmf
  replace p0 := p0.block (hb.block (w.heap.size + 1 + 1 + 1 + 1 + 1 + 1) (by omega))
  replace p1 := p1.block (hb.block (w.heap.size + 1 + 1 + 1 + 1 + 1 + 1 + 1) (by omega))
  replace g5 := g5.block (tT.block (w.heap.size + 1 + 1 + 1 + 1 + 1) g5.lt (by omega))
  replace hB : Below w.heap.size w v0 := ⟨tT.os.trans hB.os, tT.tape.trans hB.tape, tT.output.trans hB.output, Nat.le_trans hB.size tT.size, fun k hk => (tT.block k (by have := hB.size; omega) (by omega)).trans (hB.block k hk)⟩
  clear tT hb hss g0 g1 g2 g3 g4 g6 g7 hE
  go_wp2_with fail
  have HL0 : Hid (∀ u, Touch (fun x => x = (w.heap.size + 1 + 1 + 1 + 1 + 1)) v0 u → CAt u (w.heap.size + 1 + 1 + 1 + 1 + 1 + 1) 9 (.string MS)) := Hid.mk (fun u hu => p0.block (hu.block (w.heap.size + 1 + 1 + 1 + 1 + 1 + 1) p0.lt (by omega)))
  have HL1 : Hid (∀ u, Touch (fun x => x = (w.heap.size + 1 + 1 + 1 + 1 + 1)) v0 u → SAt u (w.heap.size + 1 + 1 + 1 + 1 + 1 + 1 + 1) 31 162 V) := Hid.mk (fun u hu => p1.block (hu.block (w.heap.size + 1 + 1 + 1 + 1 + 1 + 1 + 1) p1.lt (by omega)))
  refine wp_region3 (Touch (fun x => x = (w.heap.size + 1 + 1 + 1 + 1 + 1)) v0) v0.heap.size
      [((w.heap.size + 1 + 1 + 1 + 1 + 1), once (SC 162 hanZ) 31 4 (SC 162 V))]
      [kv (.string MS), kv (.agg (SC 162 V)), kv (.int .i64 0), kv (.string MS), .val fun _ => True, kv (.int .i64 0)]
      [.none, .none, .none, .none, .base 0 1, .none]
      [some 18, some 19, some 20, some 10, none, some 12]
      [(13, .pointer (some ⟨(w.heap.size + 1 + 1 + 1 + 1 + 1 + 1), 0, none⟩)), (14, .pointer (some ⟨(w.heap.size + 1 + 1 + 1 + 1 + 1 + 1 + 1), 0, none⟩)), (15, .int .i64 0), (11, .pointer (some ⟨(w.heap.size + 1 + 1 + 1 + 1 + 1), 0, none⟩))]
      [[], [], [], [.slot 0], [.slot 1, .base 0 0], [.slot 2]]
      [.base 0 1, .slot 3, .slot 5] [18, 19, 20, 10, 12]
      rfl (by kernel_rfl) ⟨rfl, rfl, rfl, rfl, trivial⟩ (touch_le (Below.refl _ v0).drew) (Nat.le_refl _) ⟨⟨g5.lt, obIn g5⟩, trivial⟩ ⟨trivial, trivial⟩ (touch_GT (fun k hk => by simpa using hk))
      ⟨
        -- 0
        (fun Q aq ww own hS hBg fr kn => .inl ⟨trivial, fun K hK => wp_value (exec_ld rfl fr.1 (load_str (HL0.out ww hS).at)) (hK _ _ ⟨Touch.refl _ _, rfl⟩)⟩),
        -- 1
        (fun Q aq ww own hS hBg fr kn => .inl ⟨trivial, fun K hK => wp_value (look_st rfl isHand (HL1.out ww hS) fr.2.1) (hK _ _ ⟨Touch.refl _ _, rfl⟩)⟩),
        -- 2
        (fun Q aq ww own hS hBg fr kn => .inl ⟨trivial, fun K hK => wp_value (exec_move rfl fr.2.2.1) (hK _ _ ⟨Touch.refl _ _, rfl⟩)⟩),
        -- 3
        (fun Q aq ww own hS hBg fr kn => .inl ⟨trivial, fun K hK => wp_value (exec_assign rfl kn.1) (hK _ _ ⟨Touch.refl _ _, rfl⟩)⟩),
        -- 4
        (fun Q aq ww own hS hBg fr kn => .inl ⟨trivial, fun K hK => act_st7 rfl isHand h1V fr.2.2.2.1 kn.1 (obAt kn.2.1) (fun w2 hg ho => hK _ _ ⟨⟨touch_only ho, obIn hg⟩, trivial⟩)⟩),
        -- 5
        (fun Q aq ww own hS hBg fr kn => .inl ⟨trivial, fun K hK => wp_value (exec_assign rfl kn.1) (hK _ _ ⟨Touch.refl _ _, rfl⟩)⟩),
        trivial⟩ ?_
  intro vs own v9 hT1 hsz kn inj
  clear inj hsz
  have q0 : SAt v9 (w.heap.size + 1 + 1 + 1 + 1 + 1) 31 162 V := obAt kn.1
  have e10 : vs 10 = _ := kn.2.1
  have e12 : vs 12 = _ := kn.2.2.1
  clear kn HL0 HL1
  replace hB : Below w.heap.size w v9 := ⟨hT1.os.trans hB.os, hT1.tape.trans hB.tape, hT1.output.trans hB.output, Nat.le_trans hB.size hT1.size, fun k hk => (hT1.block k (by have := hB.size; omega) (by omega)).trans (hB.block k hk)⟩
  simp only [putAll, Act.put, List.setIfInBounds_toArray, List.set_cons_zero, List.set_cons_succ, e10, e12]
  go_wp2_with fail
  exact bodyPost_ret (v := .tuple #[.string MS, .agg (SC 162 V), .int .i64 0]) (res_tct Tryz.results9 isHand q0 (by rfl) (by rfl) (by rfl)) rfl ⟨rfl, hB⟩
set_option linter.unusedVariables false in
set_option maxHeartbeats 4000000 in
set_option maxRecDepth 100000 in
theorem Begin_no (O : Nat → Int) (P : Nat → Int) (E : Nat → Int) (T : Nat → Int) (ix : Int) (X : Int) (w : World) (hE : Env w) 
    (hst : ∀ u, Env u → Calls Tryz.prog 36 #[.agg (WA .u8 32 O), .agg (WA .u8 32 P), .agg (WA .u8 32 E), .agg (WA .u8 12 T), .int .u32 ix] u fun e w' => e = gup X ∧ Below u.heap.size u w') :
    Calls Tryz.prog 9 #[.agg (WA .u8 32 O), .agg (WA .u8 32 P), .agg (WA .u8 32 E), .agg (WA .u8 12 T), .int .u32 ix] w fun e w' => e = .returned (.tuple #[.string ⟨#[]⟩, .agg (SC 162 hanZ), .int .i64 X]) ∧ Below w.heap.size w w' := by
  have hB : Below w.heap.size w ((((((((w.alloc (.cells (WA .u8 32 O) 22)).alloc (.cells (WA .u8 32 P) 22)).alloc (.cells (WA .u8 32 E) 22)).alloc (.cells (WA .u8 12 T) 26)).alloc (.cells #[.int .u32 ix] 23)).alloc (.cells Tryz.zeroCells31 31)).alloc (.cells #[.string ⟨#[]⟩] 9)).alloc (.cells Tryz.zeroCells31 31)) := ((((((((Below.refl _ w).alloc (by simp) _).alloc (by simp) _).alloc (by simp; omega) _).alloc (by simp; omega) _).alloc (by simp; omega) _).alloc (by simp; omega) _).alloc (by simp; omega) _).alloc (by simp; omega) _
  have g0 : ArrAt ((((((((w.alloc (.cells (WA .u8 32 O) 22)).alloc (.cells (WA .u8 32 P) 22)).alloc (.cells (WA .u8 32 E) 22)).alloc (.cells (WA .u8 12 T) 26)).alloc (.cells #[.int .u32 ix] 23)).alloc (.cells Tryz.zeroCells31 31)).alloc (.cells #[.string ⟨#[]⟩] 9)).alloc (.cells Tryz.zeroCells31 31)) w.heap.size .u8 22 32 O := heap_keep_alloc _ (heap_keep_alloc _ (heap_keep_alloc _ (heap_keep_alloc _ (heap_keep_alloc _ (heap_keep_alloc _ (heap_keep_alloc _ (heap_at_alloc w _ w.heap.size (by simp))))))))
  have g1 : ArrAt ((((((((w.alloc (.cells (WA .u8 32 O) 22)).alloc (.cells (WA .u8 32 P) 22)).alloc (.cells (WA .u8 32 E) 22)).alloc (.cells (WA .u8 12 T) 26)).alloc (.cells #[.int .u32 ix] 23)).alloc (.cells Tryz.zeroCells31 31)).alloc (.cells #[.string ⟨#[]⟩] 9)).alloc (.cells Tryz.zeroCells31 31)) (w.heap.size + 1) .u8 22 32 P := heap_keep_alloc _ (heap_keep_alloc _ (heap_keep_alloc _ (heap_keep_alloc _ (heap_keep_alloc _ (heap_keep_alloc _ (heap_at_alloc (w.alloc (.cells (WA .u8 32 O) 22)) _ (w.heap.size + 1) (by simp)))))))
  have g2 : ArrAt ((((((((w.alloc (.cells (WA .u8 32 O) 22)).alloc (.cells (WA .u8 32 P) 22)).alloc (.cells (WA .u8 32 E) 22)).alloc (.cells (WA .u8 12 T) 26)).alloc (.cells #[.int .u32 ix] 23)).alloc (.cells Tryz.zeroCells31 31)).alloc (.cells #[.string ⟨#[]⟩] 9)).alloc (.cells Tryz.zeroCells31 31)) (w.heap.size + 1 + 1) .u8 22 32 E := heap_keep_alloc _ (heap_keep_alloc _ (heap_keep_alloc _ (heap_keep_alloc _ (heap_keep_alloc _ (heap_at_alloc ((w.alloc (.cells (WA .u8 32 O) 22)).alloc (.cells (WA .u8 32 P) 22)) _ (w.heap.size + 1 + 1) (by simp))))))
  have g3 : ArrAt ((((((((w.alloc (.cells (WA .u8 32 O) 22)).alloc (.cells (WA .u8 32 P) 22)).alloc (.cells (WA .u8 32 E) 22)).alloc (.cells (WA .u8 12 T) 26)).alloc (.cells #[.int .u32 ix] 23)).alloc (.cells Tryz.zeroCells31 31)).alloc (.cells #[.string ⟨#[]⟩] 9)).alloc (.cells Tryz.zeroCells31 31)) (w.heap.size + 1 + 1 + 1) .u8 26 12 T := heap_keep_alloc _ (heap_keep_alloc _ (heap_keep_alloc _ (heap_keep_alloc _ (heap_at_alloc (((w.alloc (.cells (WA .u8 32 O) 22)).alloc (.cells (WA .u8 32 P) 22)).alloc (.cells (WA .u8 32 E) 22)) _ (w.heap.size + 1 + 1 + 1) (by simp)))))
  have g4 : CAt ((((((((w.alloc (.cells (WA .u8 32 O) 22)).alloc (.cells (WA .u8 32 P) 22)).alloc (.cells (WA .u8 32 E) 22)).alloc (.cells (WA .u8 12 T) 26)).alloc (.cells #[.int .u32 ix] 23)).alloc (.cells Tryz.zeroCells31 31)).alloc (.cells #[.string ⟨#[]⟩] 9)).alloc (.cells Tryz.zeroCells31 31)) (w.heap.size + 1 + 1 + 1 + 1) 23 (.int .u32 ix) := heap_keep_alloc _ (heap_keep_alloc _ (heap_keep_alloc _ (heap_at_alloc ((((w.alloc (.cells (WA .u8 32 O) 22)).alloc (.cells (WA .u8 32 P) 22)).alloc (.cells (WA .u8 32 E) 22)).alloc (.cells (WA .u8 12 T) 26)) _ (w.heap.size + 1 + 1 + 1 + 1) (by simp))))
  have g5 : SAt ((((((((w.alloc (.cells (WA .u8 32 O) 22)).alloc (.cells (WA .u8 32 P) 22)).alloc (.cells (WA .u8 32 E) 22)).alloc (.cells (WA .u8 12 T) 26)).alloc (.cells #[.int .u32 ix] 23)).alloc (.cells Tryz.zeroCells31 31)).alloc (.cells #[.string ⟨#[]⟩] 9)).alloc (.cells Tryz.zeroCells31 31)) (w.heap.size + 1 + 1 + 1 + 1 + 1) 31 162 hanZ := by
    have h : (((((((((w.alloc (.cells (WA .u8 32 O) 22)).alloc (.cells (WA .u8 32 P) 22)).alloc (.cells (WA .u8 32 E) 22)).alloc (.cells (WA .u8 12 T) 26)).alloc (.cells #[.int .u32 ix] 23)).alloc (.cells Tryz.zeroCells31 31)).alloc (.cells #[.string ⟨#[]⟩] 9)).alloc (.cells Tryz.zeroCells31 31))).heap[(w.heap.size + 1 + 1 + 1 + 1 + 1)]? = some (.cells Tryz.zeroCells31 31) := heap_keep_alloc _ (heap_keep_alloc _ (heap_at_alloc (((((w.alloc (.cells (WA .u8 32 O) 22)).alloc (.cells (WA .u8 32 P) 22)).alloc (.cells (WA .u8 32 E) 22)).alloc (.cells (WA .u8 12 T) 26)).alloc (.cells #[.int .u32 ix] 23)) _ (w.heap.size + 1 + 1 + 1 + 1 + 1) (by simp)))
    unfold SAt
    rw [← zeroHand]
    exact h
  have g6 : CAt ((((((((w.alloc (.cells (WA .u8 32 O) 22)).alloc (.cells (WA .u8 32 P) 22)).alloc (.cells (WA .u8 32 E) 22)).alloc (.cells (WA .u8 12 T) 26)).alloc (.cells #[.int .u32 ix] 23)).alloc (.cells Tryz.zeroCells31 31)).alloc (.cells #[.string ⟨#[]⟩] 9)).alloc (.cells Tryz.zeroCells31 31)) (w.heap.size + 1 + 1 + 1 + 1 + 1 + 1) 9 (.string ⟨#[]⟩) := heap_keep_alloc _ (heap_at_alloc ((((((w.alloc (.cells (WA .u8 32 O) 22)).alloc (.cells (WA .u8 32 P) 22)).alloc (.cells (WA .u8 32 E) 22)).alloc (.cells (WA .u8 12 T) 26)).alloc (.cells #[.int .u32 ix] 23)).alloc (.cells Tryz.zeroCells31 31)) _ (w.heap.size + 1 + 1 + 1 + 1 + 1 + 1) (by simp))
  have g7 : SAt ((((((((w.alloc (.cells (WA .u8 32 O) 22)).alloc (.cells (WA .u8 32 P) 22)).alloc (.cells (WA .u8 32 E) 22)).alloc (.cells (WA .u8 12 T) 26)).alloc (.cells #[.int .u32 ix] 23)).alloc (.cells Tryz.zeroCells31 31)).alloc (.cells #[.string ⟨#[]⟩] 9)).alloc (.cells Tryz.zeroCells31 31)) (w.heap.size + 1 + 1 + 1 + 1 + 1 + 1 + 1) 31 162 hanZ := by
    have h : (((((((((w.alloc (.cells (WA .u8 32 O) 22)).alloc (.cells (WA .u8 32 P) 22)).alloc (.cells (WA .u8 32 E) 22)).alloc (.cells (WA .u8 12 T) 26)).alloc (.cells #[.int .u32 ix] 23)).alloc (.cells Tryz.zeroCells31 31)).alloc (.cells #[.string ⟨#[]⟩] 9)).alloc (.cells Tryz.zeroCells31 31))).heap[(w.heap.size + 1 + 1 + 1 + 1 + 1 + 1 + 1)]? = some (.cells Tryz.zeroCells31 31) := heap_at_alloc (((((((w.alloc (.cells (WA .u8 32 O) 22)).alloc (.cells (WA .u8 32 P) 22)).alloc (.cells (WA .u8 32 E) 22)).alloc (.cells (WA .u8 12 T) 26)).alloc (.cells #[.int .u32 ix] 23)).alloc (.cells Tryz.zeroCells31 31)).alloc (.cells #[.string ⟨#[]⟩] 9)) _ (w.heap.size + 1 + 1 + 1 + 1 + 1 + 1 + 1) (by simp)
    unfold SAt
    rw [← zeroHand]
    exact h
  replace hE := hE.kept hB
  have hss : (((((((((w.alloc (.cells (WA .u8 32 O) 22)).alloc (.cells (WA .u8 32 P) 22)).alloc (.cells (WA .u8 32 E) 22)).alloc (.cells (WA .u8 12 T) 26)).alloc (.cells #[.int .u32 ix] 23)).alloc (.cells Tryz.zeroCells31 31)).alloc (.cells #[.string ⟨#[]⟩] 9)).alloc (.cells Tryz.zeroCells31 31))).heap.size = w.heap.size + 1 + 1 + 1 + 1 + 1 + 1 + 1 + 1 := by simp
  have hAt := attempt_run 35 #[.pointer (some ⟨w.heap.size, 0, none⟩), .pointer (some ⟨(w.heap.size + 1), 0, none⟩), .pointer (some ⟨(w.heap.size + 1 + 1), 0, none⟩), .pointer (some ⟨(w.heap.size + 1 + 1 + 1), 0, none⟩), .pointer (some ⟨(w.heap.size + 1 + 1 + 1 + 1), 0, none⟩), .pointer (some ⟨(w.heap.size + 1 + 1 + 1 + 1 + 1 + 1), 0, none⟩), .pointer (some ⟨(w.heap.size + 1 + 1 + 1 + 1 + 1 + 1 + 1), 0, none⟩)] (fun x => x = (w.heap.size + 1 + 1 + 1 + 1 + 1 + 1) ∨ x = (w.heap.size + 1 + 1 + 1 + 1 + 1 + 1 + 1)) (fun x v => x = X ∧ CAt v (w.heap.size + 1 + 1 + 1 + 1 + 1 + 1) 9 (.string ⟨#[]⟩) ∧ SAt v (w.heap.size + 1 + 1 + 1 + 1 + 1 + 1 + 1) 31 162 hanZ) ((((((((w.alloc (.cells (WA .u8 32 O) 22)).alloc (.cells (WA .u8 32 P) 22)).alloc (.cells (WA .u8 32 E) 22)).alloc (.cells (WA .u8 12 T) 26)).alloc (.cells #[.int .u32 ix] 23)).alloc (.cells Tryz.zeroCells31 31)).alloc (.cells #[.string ⟨#[]⟩] 9)).alloc (.cells Tryz.zeroCells31 31)) enterBeginCl (fun x hx => by simp at hx ⊢; omega) (fun u hu => by
    refine ((Begin_cn w.heap.size (w.heap.size + 1) (w.heap.size + 1 + 1) (w.heap.size + 1 + 1 + 1) (w.heap.size + 1 + 1 + 1 + 1) (w.heap.size + 1 + 1 + 1 + 1 + 1 + 1) (w.heap.size + 1 + 1 + 1 + 1 + 1 + 1 + 1) O P E T ix X u (hE.kept hu) (g0.kept hu) (g1.kept hu) (g2.kept hu) (g3.kept hu) (g4.kept hu) hst).mono ?_)
    rintro e v ⟨rfl, hb⟩
    exact ⟨touch_le hb, X, .inr rfl, rfl, (g6.kept hu).kept hb, (g7.kept hu).kept hb⟩)
  have hmf : ∀ (fn : Fn) (first cap : Array Value) (w : World), (Instr.makeFunc fn first cap).run Tryz.prog w = .ok (.func fn first cap) w := fun _ _ _ _ => rfl
  go_enter Tryz.func9, Tryz.ntmps9
  go_wp2_with fail
  refine hAt.mono ?_
  rintro e v0 ⟨x, vc, rfl, ⟨hx, p0, p1⟩, tT, hb⟩
  have hx' := hx.symm
  clear hx
  subst hx'
  clear hAt hmf
  replace p0 := p0.block (hb.block (w.heap.size + 1 + 1 + 1 + 1 + 1 + 1) (by omega))
  replace p1 := p1.block (hb.block (w.heap.size + 1 + 1 + 1 + 1 + 1 + 1 + 1) (by omega))
  replace g5 := g5.block (tT.block (w.heap.size + 1 + 1 + 1 + 1 + 1) g5.lt (by omega))
  replace hB : Below w.heap.size w v0 := ⟨tT.os.trans hB.os, tT.tape.trans hB.tape, tT.output.trans hB.output, Nat.le_trans hB.size tT.size, fun k hk => (tT.block k (by have := hB.size; omega) (by omega)).trans (hB.block k hk)⟩
  clear tT hb hss g0 g1 g2 g3 g4 g6 g7 hE
  go_wp2_with fail
  have HL0 : Hid (∀ u, Touch (fun x => x = (w.heap.size + 1 + 1 + 1 + 1 + 1)) v0 u → CAt u (w.heap.size + 1 + 1 + 1 + 1 + 1 + 1) 9 (.string ⟨#[]⟩)) := Hid.mk (fun u hu => p0.block (hu.block (w.heap.size + 1 + 1 + 1 + 1 + 1 + 1) p0.lt (by omega)))
  have HL1 : Hid (∀ u, Touch (fun x => x = (w.heap.size + 1 + 1 + 1 + 1 + 1)) v0 u → SAt u (w.heap.size + 1 + 1 + 1 + 1 + 1 + 1 + 1) 31 162 hanZ) := Hid.mk (fun u hu => p1.block (hu.block (w.heap.size + 1 + 1 + 1 + 1 + 1 + 1 + 1) p1.lt (by omega)))
  refine wp_region3 (Touch (fun x => x = (w.heap.size + 1 + 1 + 1 + 1 + 1)) v0) v0.heap.size
      [((w.heap.size + 1 + 1 + 1 + 1 + 1), once (SC 162 hanZ) 31 4 (SC 162 hanZ))]
      [kv (.string ⟨#[]⟩), kv (.agg (SC 162 hanZ)), kv (.int .i64 X), kv (.string ⟨#[]⟩), .val fun _ => True, kv (.int .i64 X)]
      [.none, .none, .none, .none, .base 0 1, .none]
      [some 18, some 19, some 20, some 10, none, some 12]
      [(13, .pointer (some ⟨(w.heap.size + 1 + 1 + 1 + 1 + 1 + 1), 0, none⟩)), (14, .pointer (some ⟨(w.heap.size + 1 + 1 + 1 + 1 + 1 + 1 + 1), 0, none⟩)), (15, .int .i64 X), (11, .pointer (some ⟨(w.heap.size + 1 + 1 + 1 + 1 + 1), 0, none⟩))]
      [[], [], [], [.slot 0], [.slot 1, .base 0 0], [.slot 2]]
      [.base 0 1, .slot 3, .slot 5] [18, 19, 20, 10, 12]
      rfl (by kernel_rfl) ⟨rfl, rfl, rfl, rfl, trivial⟩ (touch_le (Below.refl _ v0).drew) (Nat.le_refl _) ⟨⟨g5.lt, obIn g5⟩, trivial⟩ ⟨trivial, trivial⟩ (touch_GT (fun k hk => by simpa using hk))
      ⟨
        -- 0
        (fun Q aq ww own hS hBg fr kn => .inl ⟨trivial, fun K hK => wp_value (exec_ld rfl fr.1 (load_str (HL0.out ww hS).at)) (hK _ _ ⟨Touch.refl _ _, rfl⟩)⟩),
        -- 1
        (fun Q aq ww own hS hBg fr kn => .inl ⟨trivial, fun K hK => wp_value (look_st rfl isHand (HL1.out ww hS) fr.2.1) (hK _ _ ⟨Touch.refl _ _, rfl⟩)⟩),
        -- 2
        (fun Q aq ww own hS hBg fr kn => .inl ⟨trivial, fun K hK => wp_value (exec_move rfl fr.2.2.1) (hK _ _ ⟨Touch.refl _ _, rfl⟩)⟩),
        -- 3
        (fun Q aq ww own hS hBg fr kn => .inl ⟨trivial, fun K hK => wp_value (exec_assign rfl kn.1) (hK _ _ ⟨Touch.refl _ _, rfl⟩)⟩),
        -- 4
        (fun Q aq ww own hS hBg fr kn => .inl ⟨trivial, fun K hK => act_st7 rfl isHand (hanV_one _ _ _ _ _ _ _) fr.2.2.2.1 kn.1 (obAt kn.2.1) (fun w2 hg ho => hK _ _ ⟨⟨touch_only ho, obIn hg⟩, trivial⟩)⟩),
        -- 5
        (fun Q aq ww own hS hBg fr kn => .inl ⟨trivial, fun K hK => wp_value (exec_assign rfl kn.1) (hK _ _ ⟨Touch.refl _ _, rfl⟩)⟩),
        trivial⟩ ?_
  intro vs own v9 hT1 hsz kn inj
  clear inj hsz
  have q0 : SAt v9 (w.heap.size + 1 + 1 + 1 + 1 + 1) 31 162 hanZ := obAt kn.1
  have e10 : vs 10 = _ := kn.2.1
  have e12 : vs 12 = _ := kn.2.2.1
  clear kn HL0 HL1
  replace hB : Below w.heap.size w v9 := ⟨hT1.os.trans hB.os, hT1.tape.trans hB.tape, hT1.output.trans hB.output, Nat.le_trans hB.size hT1.size, fun k hk => (hT1.block k (by have := hB.size; omega) (by omega)).trans (hB.block k hk)⟩
  simp only [putAll, Act.put, List.setIfInBounds_toArray, List.set_cons_zero, List.set_cons_succ, e10, e12]
  go_wp2_with fail
  exact bodyPost_ret (v := .tuple #[.string ⟨#[]⟩, .agg (SC 162 hanZ), .int .i64 X]) (res_tct Tryz.results9 isHand q0 (by rfl) (by rfl) (by rfl)) rfl ⟨rfl, hB⟩
theorem enterAcceptCl (args : Array Value) (w : World) : (callFunc 45 args).run Tryz.prog w = .ok (.enter 45 args) w := by kernel_rfl
set_option maxHeartbeats 1600000 in
theorem Accept_cl (b0 b1 b2 b3 : Nat) (O : Nat → Int) (m : ByteArray) (V : Nat → Value) (T : Nat → Int) (u : World) (hE : Env u) (c0 : ArrAt u b0 .u8 22 32 O) (c1 : CAt u b1 9 (.string m)) (c2 : SAt u b2 31 162 hanZ) (c3 : ArrAt u b3 .u8 26 12 (fun _ => 0)) (h1V : ∀ i, (V i).oneCell' = true) (hne : b2 ≠ b3) 
    (hst : ∀ u, Env u → Calls Tryz.prog 46 #[.agg (WA .u8 32 O), .string m] u fun e w' => e = .returned (.tuple #[.agg (SC 162 V), .agg (WA .u8 12 T)]) ∧ Below u.heap.size u w') :
    Calls Tryz.prog 45 #[.pointer (some ⟨b0, 0, none⟩), .pointer (some ⟨b1, 0, none⟩), .pointer (some ⟨b2, 0, none⟩), .pointer (some ⟨b3, 0, none⟩)] u fun e w' => e = .returned (.tuple #[]) ∧ SAt w' b2 31 162 V ∧ ArrAt w' b3 .u8 26 12 T ∧ Touch (fun x => x = b2 ∨ x = b3) u w' := by
  have touch_or0 : ∀ {p q : World}, Only b2 p q → Touch (fun x => x = b2 ∨ x = b3) p q := fun o => ⟨o.os, o.tape, o.output, by rw [o.size]; exact Nat.le_refl _, fun k _ hn => o.block k (fun h => hn (by simp [h]))⟩
  have touch_or1 : ∀ {p q : World}, Only b3 p q → Touch (fun x => x = b2 ∨ x = b3) p q := fun o => ⟨o.os, o.tape, o.output, by rw [o.size]; exact Nat.le_refl _, fun k _ hn => o.block k (fun h => hn (by simp [h]))⟩
  have e1 := c1.at
  go_enter Tryz.func45, Tryz.ntmps45
  go_wp2_with (first | (refine ld_arr isArr32 c0 (by rfl) ?_))
  refine (hst _ hE).mono ?_
  rintro x v1 ⟨rfl, hb⟩
  replace c2 := c2.kept hb
  replace c3 := c3.kept hb
  have ht : Touch (fun x => x = b2 ∨ x = b3) u v1 := touch_le hb
  clear hb
  go_wp2_with (refine st_st isHand h1V c2 (by rfl) (by rfl) ?_; intro y0 d00 o0; refine Hid.out ?_)
  have d0 := Hid.mk d00
  replace c3 := c3.only o0 (Ne.symm hne)
  replace ht := touch_tr ht (touch_or0 o0)
  clear d00 o0
  refine Hid.mk ?_
  go_wp2_with (refine st_arr isArr12 c3 (by rfl) (by rfl) ?_; intro y1 d10 o1; refine Hid.out ?_)
  have d1 := Hid.mk d10
  replace d0 := Hid.mk (d0.out.only o1 hne)
  replace ht := touch_tr ht (touch_or1 o1)
  clear d10 o1
  refine Hid.mk ?_
  go_wp2_with fail
  exact bodyPost_end (results_none rfl _ _ _) rfl ⟨rfl, d0.out, d1.out, ht⟩
set_option maxHeartbeats 1600000 in
theorem Accept_cn (b0 b1 b2 b3 : Nat) (O : Nat → Int) (m : ByteArray) (X : Int) (u : World) (hE : Env u) (c0 : ArrAt u b0 .u8 22 32 O) (c1 : CAt u b1 9 (.string m))
    (hst : ∀ u, Env u → Calls Tryz.prog 46 #[.agg (WA .u8 32 O), .string m] u fun e w' => e = gup X ∧ Below u.heap.size u w') :
    Calls Tryz.prog 45 #[.pointer (some ⟨b0, 0, none⟩), .pointer (some ⟨b1, 0, none⟩), .pointer (some ⟨b2, 0, none⟩), .pointer (some ⟨b3, 0, none⟩)] u fun e w' => e = gup X ∧ Below u.heap.size u w' := by
  have e1 := c1.at
  go_enter Tryz.func45, Tryz.ntmps45
  go_wp2_with (first | (refine ld_arr isArr32 c0 (by rfl) ?_))
  refine (hst _ hE).mono ?_
  rintro x v1 ⟨rfl, hb⟩
  exact ⟨rfl, rfl, hb⟩
set_option linter.unusedVariables false in
set_option maxHeartbeats 4000000 in
set_option maxRecDepth 100000 in
theorem Accept_ok (O : Nat → Int) (m : ByteArray) (V : Nat → Value) (T : Nat → Int) (w : World) (hE : Env w) (h1V : ∀ i, (V i).oneCell' = true)
    (hst : ∀ u, Env u → Calls Tryz.prog 46 #[.agg (WA .u8 32 O), .string m] u fun e w' => e = .returned (.tuple #[.agg (SC 162 V), .agg (WA .u8 12 T)]) ∧ Below u.heap.size u w') :
    Calls Tryz.prog 11 #[.agg (WA .u8 32 O), .string m] w fun e w' => e = .returned (.tuple #[.agg (SC 162 V), .agg (WA .u8 12 T), .int .i64 0]) ∧ Below w.heap.size w w' := by
  have hB : Below w.heap.size w ((((((w.alloc (.cells (WA .u8 32 O) 22)).alloc (.cells #[.string m] 9)).alloc (.cells Tryz.zeroCells31 31)).alloc (.cells (WA .u8 12 (fun _ => 0)) 26)).alloc (.cells Tryz.zeroCells31 31)).alloc (.cells (WA .u8 12 (fun _ => 0)) 26)) := ((((((Below.refl _ w).alloc (by simp) _).alloc (by simp) _).alloc (by simp; omega) _).alloc (by simp; omega) _).alloc (by simp; omega) _).alloc (by simp; omega) _
  have g0 : ArrAt ((((((w.alloc (.cells (WA .u8 32 O) 22)).alloc (.cells #[.string m] 9)).alloc (.cells Tryz.zeroCells31 31)).alloc (.cells (WA .u8 12 (fun _ => 0)) 26)).alloc (.cells Tryz.zeroCells31 31)).alloc (.cells (WA .u8 12 (fun _ => 0)) 26)) w.heap.size .u8 22 32 O := heap_keep_alloc _ (heap_keep_alloc _ (heap_keep_alloc _ (heap_keep_alloc _ (heap_keep_alloc _ (heap_at_alloc w _ w.heap.size (by simp))))))
  have g1 : CAt ((((((w.alloc (.cells (WA .u8 32 O) 22)).alloc (.cells #[.string m] 9)).alloc (.cells Tryz.zeroCells31 31)).alloc (.cells (WA .u8 12 (fun _ => 0)) 26)).alloc (.cells Tryz.zeroCells31 31)).alloc (.cells (WA .u8 12 (fun _ => 0)) 26)) (w.heap.size + 1) 9 (.string m) := heap_keep_alloc _ (heap_keep_alloc _ (heap_keep_alloc _ (heap_keep_alloc _ (heap_at_alloc (w.alloc (.cells (WA .u8 32 O) 22)) _ (w.heap.size + 1) (by simp)))))
  have g2 : SAt ((((((w.alloc (.cells (WA .u8 32 O) 22)).alloc (.cells #[.string m] 9)).alloc (.cells Tryz.zeroCells31 31)).alloc (.cells (WA .u8 12 (fun _ => 0)) 26)).alloc (.cells Tryz.zeroCells31 31)).alloc (.cells (WA .u8 12 (fun _ => 0)) 26)) (w.heap.size + 1 + 1) 31 162 hanZ := by
    have h : (((((((w.alloc (.cells (WA .u8 32 O) 22)).alloc (.cells #[.string m] 9)).alloc (.cells Tryz.zeroCells31 31)).alloc (.cells (WA .u8 12 (fun _ => 0)) 26)).alloc (.cells Tryz.zeroCells31 31)).alloc (.cells (WA .u8 12 (fun _ => 0)) 26))).heap[(w.heap.size + 1 + 1)]? = some (.cells Tryz.zeroCells31 31) := heap_keep_alloc _ (heap_keep_alloc _ (heap_keep_alloc _ (heap_at_alloc ((w.alloc (.cells (WA .u8 32 O) 22)).alloc (.cells #[.string m] 9)) _ (w.heap.size + 1 + 1) (by simp))))
    unfold SAt
    rw [← zeroHand]
    exact h
  have g3 : ArrAt ((((((w.alloc (.cells (WA .u8 32 O) 22)).alloc (.cells #[.string m] 9)).alloc (.cells Tryz.zeroCells31 31)).alloc (.cells (WA .u8 12 (fun _ => 0)) 26)).alloc (.cells Tryz.zeroCells31 31)).alloc (.cells (WA .u8 12 (fun _ => 0)) 26)) (w.heap.size + 1 + 1 + 1) .u8 26 12 (fun _ => 0) := heap_keep_alloc _ (heap_keep_alloc _ (heap_at_alloc (((w.alloc (.cells (WA .u8 32 O) 22)).alloc (.cells #[.string m] 9)).alloc (.cells Tryz.zeroCells31 31)) _ (w.heap.size + 1 + 1 + 1) (by simp)))
  have g4 : SAt ((((((w.alloc (.cells (WA .u8 32 O) 22)).alloc (.cells #[.string m] 9)).alloc (.cells Tryz.zeroCells31 31)).alloc (.cells (WA .u8 12 (fun _ => 0)) 26)).alloc (.cells Tryz.zeroCells31 31)).alloc (.cells (WA .u8 12 (fun _ => 0)) 26)) (w.heap.size + 1 + 1 + 1 + 1) 31 162 hanZ := by
    have h : (((((((w.alloc (.cells (WA .u8 32 O) 22)).alloc (.cells #[.string m] 9)).alloc (.cells Tryz.zeroCells31 31)).alloc (.cells (WA .u8 12 (fun _ => 0)) 26)).alloc (.cells Tryz.zeroCells31 31)).alloc (.cells (WA .u8 12 (fun _ => 0)) 26))).heap[(w.heap.size + 1 + 1 + 1 + 1)]? = some (.cells Tryz.zeroCells31 31) := heap_keep_alloc _ (heap_at_alloc ((((w.alloc (.cells (WA .u8 32 O) 22)).alloc (.cells #[.string m] 9)).alloc (.cells Tryz.zeroCells31 31)).alloc (.cells (WA .u8 12 (fun _ => 0)) 26)) _ (w.heap.size + 1 + 1 + 1 + 1) (by simp))
    unfold SAt
    rw [← zeroHand]
    exact h
  have g5 : ArrAt ((((((w.alloc (.cells (WA .u8 32 O) 22)).alloc (.cells #[.string m] 9)).alloc (.cells Tryz.zeroCells31 31)).alloc (.cells (WA .u8 12 (fun _ => 0)) 26)).alloc (.cells Tryz.zeroCells31 31)).alloc (.cells (WA .u8 12 (fun _ => 0)) 26)) (w.heap.size + 1 + 1 + 1 + 1 + 1) .u8 26 12 (fun _ => 0) := heap_at_alloc (((((w.alloc (.cells (WA .u8 32 O) 22)).alloc (.cells #[.string m] 9)).alloc (.cells Tryz.zeroCells31 31)).alloc (.cells (WA .u8 12 (fun _ => 0)) 26)).alloc (.cells Tryz.zeroCells31 31)) _ (w.heap.size + 1 + 1 + 1 + 1 + 1) (by simp)
  replace hE := hE.kept hB
  have hss : (((((((w.alloc (.cells (WA .u8 32 O) 22)).alloc (.cells #[.string m] 9)).alloc (.cells Tryz.zeroCells31 31)).alloc (.cells (WA .u8 12 (fun _ => 0)) 26)).alloc (.cells Tryz.zeroCells31 31)).alloc (.cells (WA .u8 12 (fun _ => 0)) 26))).heap.size = w.heap.size + 1 + 1 + 1 + 1 + 1 + 1 := by simp
  have hAt := attempt_run 45 #[.pointer (some ⟨w.heap.size, 0, none⟩), .pointer (some ⟨(w.heap.size + 1), 0, none⟩), .pointer (some ⟨(w.heap.size + 1 + 1 + 1 + 1), 0, none⟩), .pointer (some ⟨(w.heap.size + 1 + 1 + 1 + 1 + 1), 0, none⟩)] (fun x => x = (w.heap.size + 1 + 1 + 1 + 1) ∨ x = (w.heap.size + 1 + 1 + 1 + 1 + 1)) (fun x v => x = 0 ∧ SAt v (w.heap.size + 1 + 1 + 1 + 1) 31 162 V ∧ ArrAt v (w.heap.size + 1 + 1 + 1 + 1 + 1) .u8 26 12 T) ((((((w.alloc (.cells (WA .u8 32 O) 22)).alloc (.cells #[.string m] 9)).alloc (.cells Tryz.zeroCells31 31)).alloc (.cells (WA .u8 12 (fun _ => 0)) 26)).alloc (.cells Tryz.zeroCells31 31)).alloc (.cells (WA .u8 12 (fun _ => 0)) 26)) enterAcceptCl (fun x hx => by simp at hx ⊢; omega) (fun u hu => by
    refine ((Accept_cl w.heap.size (w.heap.size + 1) (w.heap.size + 1 + 1 + 1 + 1) (w.heap.size + 1 + 1 + 1 + 1 + 1) O m V T u (hE.kept hu) (g0.kept hu) (g1.kept hu) (g4.kept hu) (g5.kept hu) h1V (by omega) hst).mono ?_)
    rintro e v ⟨rfl, p0, p1, ht⟩
    exact ⟨ht, 0, .inl ⟨rfl, rfl⟩, rfl, p0, p1⟩)
  have hmf : ∀ (fn : Fn) (first cap : Array Value) (w : World), (Instr.makeFunc fn first cap).run Tryz.prog w = .ok (.func fn first cap) w := fun _ _ _ _ => rfl
  go_enter Tryz.func11, Tryz.ntmps11
  go_wp2_with fail
  refine hAt.mono ?_
  rintro e v0 ⟨x, vc, rfl, ⟨hx, p0, p1⟩, tT, hb⟩
  have hx' := hx.symm
  clear hx
  subst hx'
  clear hAt hmf
  replace p0 := p0.block (hb.block (w.heap.size + 1 + 1 + 1 + 1) (by omega))
  replace p1 := p1.block (hb.block (w.heap.size + 1 + 1 + 1 + 1 + 1) (by omega))
  replace g2 := g2.block (tT.block (w.heap.size + 1 + 1) g2.lt (by omega))
  replace g3 := g3.block (tT.block (w.heap.size + 1 + 1 + 1) g3.lt (by omega))
  replace hB : Below w.heap.size w v0 := ⟨tT.os.trans hB.os, tT.tape.trans hB.tape, tT.output.trans hB.output, Nat.le_trans hB.size tT.size, fun k hk => (tT.block k (by have := hB.size; omega) (by omega)).trans (hB.block k hk)⟩
  clear tT hb hss g0 g1 g4 g5 hE
  go_wp2_with fail
  have HL0 : Hid (∀ u, Touch (fun x => x = (w.heap.size + 1 + 1) ∨ x = (w.heap.size + 1 + 1 + 1)) v0 u → SAt u (w.heap.size + 1 + 1 + 1 + 1) 31 162 V) := Hid.mk (fun u hu => p0.block (hu.block (w.heap.size + 1 + 1 + 1 + 1) p0.lt (by omega)))
  have HL1 : Hid (∀ u, Touch (fun x => x = (w.heap.size + 1 + 1) ∨ x = (w.heap.size + 1 + 1 + 1)) v0 u → ArrAt u (w.heap.size + 1 + 1 + 1 + 1 + 1) .u8 26 12 T) := Hid.mk (fun u hu => p1.block (hu.block (w.heap.size + 1 + 1 + 1 + 1 + 1) p1.lt (by omega)))
  refine wp_region3 (Touch (fun x => x = (w.heap.size + 1 + 1) ∨ x = (w.heap.size + 1 + 1 + 1)) v0) v0.heap.size
      [((w.heap.size + 1 + 1), once (SC 162 hanZ) 31 3 (SC 162 V)), ((w.heap.size + 1 + 1 + 1), once (WA .u8 12 (fun _ => 0)) 26 4 (WA .u8 12 T))]
      [kv (.agg (SC 162 V)), kv (.agg (WA .u8 12 T)), kv (.int .i64 0), .val fun _ => True, .val fun _ => True, kv (.int .i64 0)]
      [.none, .none, .none, .base 0 1, .base 1 1, .none]
      [some 12, some 13, some 14, none, none, some 6]
      [(7, .pointer (some ⟨(w.heap.size + 1 + 1 + 1 + 1), 0, none⟩)), (8, .pointer (some ⟨(w.heap.size + 1 + 1 + 1 + 1 + 1), 0, none⟩)), (9, .int .i64 0), (4, .pointer (some ⟨(w.heap.size + 1 + 1), 0, none⟩)), (5, .pointer (some ⟨(w.heap.size + 1 + 1 + 1), 0, none⟩))]
      [[], [], [], [.slot 0, .base 0 0], [.slot 1, .base 1 0], [.slot 2]]
      [.base 0 1, .base 1 1, .slot 5] [12, 13, 14, 6]
      rfl (by kernel_rfl) ⟨rfl, rfl, rfl, rfl, rfl, trivial⟩ (touch_le (Below.refl _ v0).drew) (Nat.le_refl _) ⟨⟨g2.lt, obIn g2⟩, ⟨g3.lt, obIn g3⟩, trivial⟩ ⟨⟨(show ((w.heap.size + 1 + 1) : Nat) ≠ (w.heap.size + 1 + 1 + 1) from by omega), trivial⟩, trivial, trivial⟩ (touch_GT (fun k hk => by simpa using hk))
      ⟨
        -- 0
        (fun Q aq ww own hS hBg fr kn => .inl ⟨trivial, fun K hK => wp_value (look_st rfl isHand (HL0.out ww hS) fr.1) (hK _ _ ⟨Touch.refl _ _, rfl⟩)⟩),
        -- 1
        (fun Q aq ww own hS hBg fr kn => .inl ⟨trivial, fun K hK => wp_value (look_arr rfl isArr12 (HL1.out ww hS) fr.2.1) (hK _ _ ⟨Touch.refl _ _, rfl⟩)⟩),
        -- 2
        (fun Q aq ww own hS hBg fr kn => .inl ⟨trivial, fun K hK => wp_value (exec_move rfl fr.2.2.1) (hK _ _ ⟨Touch.refl _ _, rfl⟩)⟩),
        -- 3
        (fun Q aq ww own hS hBg fr kn => .inl ⟨trivial, fun K hK => act_st7 rfl isHand h1V fr.2.2.2.1 kn.1 (obAt kn.2.1) (fun w2 hg ho => hK _ _ ⟨⟨touch_only ho, obIn hg⟩, trivial⟩)⟩),
        -- 4
        (fun Q aq ww own hS hBg fr kn => .inl ⟨trivial, fun K hK => act_arr rfl isArr12 fr.2.2.2.2.1 kn.1 (obAt kn.2.1) (fun w2 hg ho => hK _ _ ⟨⟨touch_only ho, obIn hg⟩, trivial⟩)⟩),
        -- 5
        (fun Q aq ww own hS hBg fr kn => .inl ⟨trivial, fun K hK => wp_value (exec_assign rfl kn.1) (hK _ _ ⟨Touch.refl _ _, rfl⟩)⟩),
        trivial⟩ ?_
  intro vs own v9 hT1 hsz kn inj
  clear inj hsz
  have q0 : SAt v9 (w.heap.size + 1 + 1) 31 162 V := obAt kn.1
  have q1 : ArrAt v9 (w.heap.size + 1 + 1 + 1) .u8 26 12 T := obAt kn.2.1
  have e6 : vs 6 = _ := kn.2.2.1
  clear kn HL0 HL1
  replace hB : Below w.heap.size w v9 := ⟨hT1.os.trans hB.os, hT1.tape.trans hB.tape, hT1.output.trans hB.output, Nat.le_trans hB.size hT1.size, fun k hk => (hT1.block k (by have := hB.size; omega) (by omega)).trans (hB.block k hk)⟩
  simp only [putAll, Act.put, List.setIfInBounds_toArray, List.set_cons_zero, List.set_cons_succ, e6]
  go_wp2_with fail
  exact bodyPost_ret (v := .tuple #[.agg (SC 162 V), .agg (WA .u8 12 T), .int .i64 0]) (res_sat Tryz.results11 isHand isArr12 q0 q1 (by rfl) (by rfl) (by rfl)) rfl ⟨rfl, hB⟩
set_option linter.unusedVariables false in
set_option maxHeartbeats 4000000 in
set_option maxRecDepth 100000 in
theorem Accept_no (O : Nat → Int) (m : ByteArray) (X : Int) (w : World) (hE : Env w) 
    (hst : ∀ u, Env u → Calls Tryz.prog 46 #[.agg (WA .u8 32 O), .string m] u fun e w' => e = gup X ∧ Below u.heap.size u w') :
    Calls Tryz.prog 11 #[.agg (WA .u8 32 O), .string m] w fun e w' => e = .returned (.tuple #[.agg (SC 162 hanZ), .agg (WA .u8 12 (fun _ => 0)), .int .i64 X]) ∧ Below w.heap.size w w' := by
  have hB : Below w.heap.size w ((((((w.alloc (.cells (WA .u8 32 O) 22)).alloc (.cells #[.string m] 9)).alloc (.cells Tryz.zeroCells31 31)).alloc (.cells (WA .u8 12 (fun _ => 0)) 26)).alloc (.cells Tryz.zeroCells31 31)).alloc (.cells (WA .u8 12 (fun _ => 0)) 26)) := ((((((Below.refl _ w).alloc (by simp) _).alloc (by simp) _).alloc (by simp; omega) _).alloc (by simp; omega) _).alloc (by simp; omega) _).alloc (by simp; omega) _
  have g0 : ArrAt ((((((w.alloc (.cells (WA .u8 32 O) 22)).alloc (.cells #[.string m] 9)).alloc (.cells Tryz.zeroCells31 31)).alloc (.cells (WA .u8 12 (fun _ => 0)) 26)).alloc (.cells Tryz.zeroCells31 31)).alloc (.cells (WA .u8 12 (fun _ => 0)) 26)) w.heap.size .u8 22 32 O := heap_keep_alloc _ (heap_keep_alloc _ (heap_keep_alloc _ (heap_keep_alloc _ (heap_keep_alloc _ (heap_at_alloc w _ w.heap.size (by simp))))))
  have g1 : CAt ((((((w.alloc (.cells (WA .u8 32 O) 22)).alloc (.cells #[.string m] 9)).alloc (.cells Tryz.zeroCells31 31)).alloc (.cells (WA .u8 12 (fun _ => 0)) 26)).alloc (.cells Tryz.zeroCells31 31)).alloc (.cells (WA .u8 12 (fun _ => 0)) 26)) (w.heap.size + 1) 9 (.string m) := heap_keep_alloc _ (heap_keep_alloc _ (heap_keep_alloc _ (heap_keep_alloc _ (heap_at_alloc (w.alloc (.cells (WA .u8 32 O) 22)) _ (w.heap.size + 1) (by simp)))))
  have g2 : SAt ((((((w.alloc (.cells (WA .u8 32 O) 22)).alloc (.cells #[.string m] 9)).alloc (.cells Tryz.zeroCells31 31)).alloc (.cells (WA .u8 12 (fun _ => 0)) 26)).alloc (.cells Tryz.zeroCells31 31)).alloc (.cells (WA .u8 12 (fun _ => 0)) 26)) (w.heap.size + 1 + 1) 31 162 hanZ := by
    have h : (((((((w.alloc (.cells (WA .u8 32 O) 22)).alloc (.cells #[.string m] 9)).alloc (.cells Tryz.zeroCells31 31)).alloc (.cells (WA .u8 12 (fun _ => 0)) 26)).alloc (.cells Tryz.zeroCells31 31)).alloc (.cells (WA .u8 12 (fun _ => 0)) 26))).heap[(w.heap.size + 1 + 1)]? = some (.cells Tryz.zeroCells31 31) := heap_keep_alloc _ (heap_keep_alloc _ (heap_keep_alloc _ (heap_at_alloc ((w.alloc (.cells (WA .u8 32 O) 22)).alloc (.cells #[.string m] 9)) _ (w.heap.size + 1 + 1) (by simp))))
    unfold SAt
    rw [← zeroHand]
    exact h
  have g3 : ArrAt ((((((w.alloc (.cells (WA .u8 32 O) 22)).alloc (.cells #[.string m] 9)).alloc (.cells Tryz.zeroCells31 31)).alloc (.cells (WA .u8 12 (fun _ => 0)) 26)).alloc (.cells Tryz.zeroCells31 31)).alloc (.cells (WA .u8 12 (fun _ => 0)) 26)) (w.heap.size + 1 + 1 + 1) .u8 26 12 (fun _ => 0) := heap_keep_alloc _ (heap_keep_alloc _ (heap_at_alloc (((w.alloc (.cells (WA .u8 32 O) 22)).alloc (.cells #[.string m] 9)).alloc (.cells Tryz.zeroCells31 31)) _ (w.heap.size + 1 + 1 + 1) (by simp)))
  have g4 : SAt ((((((w.alloc (.cells (WA .u8 32 O) 22)).alloc (.cells #[.string m] 9)).alloc (.cells Tryz.zeroCells31 31)).alloc (.cells (WA .u8 12 (fun _ => 0)) 26)).alloc (.cells Tryz.zeroCells31 31)).alloc (.cells (WA .u8 12 (fun _ => 0)) 26)) (w.heap.size + 1 + 1 + 1 + 1) 31 162 hanZ := by
    have h : (((((((w.alloc (.cells (WA .u8 32 O) 22)).alloc (.cells #[.string m] 9)).alloc (.cells Tryz.zeroCells31 31)).alloc (.cells (WA .u8 12 (fun _ => 0)) 26)).alloc (.cells Tryz.zeroCells31 31)).alloc (.cells (WA .u8 12 (fun _ => 0)) 26))).heap[(w.heap.size + 1 + 1 + 1 + 1)]? = some (.cells Tryz.zeroCells31 31) := heap_keep_alloc _ (heap_at_alloc ((((w.alloc (.cells (WA .u8 32 O) 22)).alloc (.cells #[.string m] 9)).alloc (.cells Tryz.zeroCells31 31)).alloc (.cells (WA .u8 12 (fun _ => 0)) 26)) _ (w.heap.size + 1 + 1 + 1 + 1) (by simp))
    unfold SAt
    rw [← zeroHand]
    exact h
  have g5 : ArrAt ((((((w.alloc (.cells (WA .u8 32 O) 22)).alloc (.cells #[.string m] 9)).alloc (.cells Tryz.zeroCells31 31)).alloc (.cells (WA .u8 12 (fun _ => 0)) 26)).alloc (.cells Tryz.zeroCells31 31)).alloc (.cells (WA .u8 12 (fun _ => 0)) 26)) (w.heap.size + 1 + 1 + 1 + 1 + 1) .u8 26 12 (fun _ => 0) := heap_at_alloc (((((w.alloc (.cells (WA .u8 32 O) 22)).alloc (.cells #[.string m] 9)).alloc (.cells Tryz.zeroCells31 31)).alloc (.cells (WA .u8 12 (fun _ => 0)) 26)).alloc (.cells Tryz.zeroCells31 31)) _ (w.heap.size + 1 + 1 + 1 + 1 + 1) (by simp)
  replace hE := hE.kept hB
  have hss : (((((((w.alloc (.cells (WA .u8 32 O) 22)).alloc (.cells #[.string m] 9)).alloc (.cells Tryz.zeroCells31 31)).alloc (.cells (WA .u8 12 (fun _ => 0)) 26)).alloc (.cells Tryz.zeroCells31 31)).alloc (.cells (WA .u8 12 (fun _ => 0)) 26))).heap.size = w.heap.size + 1 + 1 + 1 + 1 + 1 + 1 := by simp
  have hAt := attempt_run 45 #[.pointer (some ⟨w.heap.size, 0, none⟩), .pointer (some ⟨(w.heap.size + 1), 0, none⟩), .pointer (some ⟨(w.heap.size + 1 + 1 + 1 + 1), 0, none⟩), .pointer (some ⟨(w.heap.size + 1 + 1 + 1 + 1 + 1), 0, none⟩)] (fun x => x = (w.heap.size + 1 + 1 + 1 + 1) ∨ x = (w.heap.size + 1 + 1 + 1 + 1 + 1)) (fun x v => x = X ∧ SAt v (w.heap.size + 1 + 1 + 1 + 1) 31 162 hanZ ∧ ArrAt v (w.heap.size + 1 + 1 + 1 + 1 + 1) .u8 26 12 (fun _ => 0)) ((((((w.alloc (.cells (WA .u8 32 O) 22)).alloc (.cells #[.string m] 9)).alloc (.cells Tryz.zeroCells31 31)).alloc (.cells (WA .u8 12 (fun _ => 0)) 26)).alloc (.cells Tryz.zeroCells31 31)).alloc (.cells (WA .u8 12 (fun _ => 0)) 26)) enterAcceptCl (fun x hx => by simp at hx ⊢; omega) (fun u hu => by
    refine ((Accept_cn w.heap.size (w.heap.size + 1) (w.heap.size + 1 + 1 + 1 + 1) (w.heap.size + 1 + 1 + 1 + 1 + 1) O m X u (hE.kept hu) (g0.kept hu) (g1.kept hu) hst).mono ?_)
    rintro e v ⟨rfl, hb⟩
    exact ⟨touch_le hb, X, .inr rfl, rfl, (g4.kept hu).kept hb, (g5.kept hu).kept hb⟩)
  have hmf : ∀ (fn : Fn) (first cap : Array Value) (w : World), (Instr.makeFunc fn first cap).run Tryz.prog w = .ok (.func fn first cap) w := fun _ _ _ _ => rfl
  go_enter Tryz.func11, Tryz.ntmps11
  go_wp2_with fail
  refine hAt.mono ?_
  rintro e v0 ⟨x, vc, rfl, ⟨hx, p0, p1⟩, tT, hb⟩
  have hx' := hx.symm
  clear hx
  subst hx'
  clear hAt hmf
  replace p0 := p0.block (hb.block (w.heap.size + 1 + 1 + 1 + 1) (by omega))
  replace p1 := p1.block (hb.block (w.heap.size + 1 + 1 + 1 + 1 + 1) (by omega))
  replace g2 := g2.block (tT.block (w.heap.size + 1 + 1) g2.lt (by omega))
  replace g3 := g3.block (tT.block (w.heap.size + 1 + 1 + 1) g3.lt (by omega))
  replace hB : Below w.heap.size w v0 := ⟨tT.os.trans hB.os, tT.tape.trans hB.tape, tT.output.trans hB.output, Nat.le_trans hB.size tT.size, fun k hk => (tT.block k (by have := hB.size; omega) (by omega)).trans (hB.block k hk)⟩
  clear tT hb hss g0 g1 g4 g5 hE
  go_wp2_with fail
  have HL0 : Hid (∀ u, Touch (fun x => x = (w.heap.size + 1 + 1) ∨ x = (w.heap.size + 1 + 1 + 1)) v0 u → SAt u (w.heap.size + 1 + 1 + 1 + 1) 31 162 hanZ) := Hid.mk (fun u hu => p0.block (hu.block (w.heap.size + 1 + 1 + 1 + 1) p0.lt (by omega)))
  have HL1 : Hid (∀ u, Touch (fun x => x = (w.heap.size + 1 + 1) ∨ x = (w.heap.size + 1 + 1 + 1)) v0 u → ArrAt u (w.heap.size + 1 + 1 + 1 + 1 + 1) .u8 26 12 (fun _ => 0)) := Hid.mk (fun u hu => p1.block (hu.block (w.heap.size + 1 + 1 + 1 + 1 + 1) p1.lt (by omega)))
  refine wp_region3 (Touch (fun x => x = (w.heap.size + 1 + 1) ∨ x = (w.heap.size + 1 + 1 + 1)) v0) v0.heap.size
      [((w.heap.size + 1 + 1), once (SC 162 hanZ) 31 3 (SC 162 hanZ)), ((w.heap.size + 1 + 1 + 1), once (WA .u8 12 (fun _ => 0)) 26 4 (WA .u8 12 (fun _ => 0)))]
      [kv (.agg (SC 162 hanZ)), kv (.agg (WA .u8 12 (fun _ => 0))), kv (.int .i64 X), .val fun _ => True, .val fun _ => True, kv (.int .i64 X)]
      [.none, .none, .none, .base 0 1, .base 1 1, .none]
      [some 12, some 13, some 14, none, none, some 6]
      [(7, .pointer (some ⟨(w.heap.size + 1 + 1 + 1 + 1), 0, none⟩)), (8, .pointer (some ⟨(w.heap.size + 1 + 1 + 1 + 1 + 1), 0, none⟩)), (9, .int .i64 X), (4, .pointer (some ⟨(w.heap.size + 1 + 1), 0, none⟩)), (5, .pointer (some ⟨(w.heap.size + 1 + 1 + 1), 0, none⟩))]
      [[], [], [], [.slot 0, .base 0 0], [.slot 1, .base 1 0], [.slot 2]]
      [.base 0 1, .base 1 1, .slot 5] [12, 13, 14, 6]
      rfl (by kernel_rfl) ⟨rfl, rfl, rfl, rfl, rfl, trivial⟩ (touch_le (Below.refl _ v0).drew) (Nat.le_refl _) ⟨⟨g2.lt, obIn g2⟩, ⟨g3.lt, obIn g3⟩, trivial⟩ ⟨⟨(show ((w.heap.size + 1 + 1) : Nat) ≠ (w.heap.size + 1 + 1 + 1) from by omega), trivial⟩, trivial, trivial⟩ (touch_GT (fun k hk => by simpa using hk))
      ⟨
        -- 0
        (fun Q aq ww own hS hBg fr kn => .inl ⟨trivial, fun K hK => wp_value (look_st rfl isHand (HL0.out ww hS) fr.1) (hK _ _ ⟨Touch.refl _ _, rfl⟩)⟩),
        -- 1
        (fun Q aq ww own hS hBg fr kn => .inl ⟨trivial, fun K hK => wp_value (look_arr rfl isArr12 (HL1.out ww hS) fr.2.1) (hK _ _ ⟨Touch.refl _ _, rfl⟩)⟩),
        -- 2
        (fun Q aq ww own hS hBg fr kn => .inl ⟨trivial, fun K hK => wp_value (exec_move rfl fr.2.2.1) (hK _ _ ⟨Touch.refl _ _, rfl⟩)⟩),
        -- 3
        (fun Q aq ww own hS hBg fr kn => .inl ⟨trivial, fun K hK => act_st7 rfl isHand (hanV_one _ _ _ _ _ _ _) fr.2.2.2.1 kn.1 (obAt kn.2.1) (fun w2 hg ho => hK _ _ ⟨⟨touch_only ho, obIn hg⟩, trivial⟩)⟩),
        -- 4
        (fun Q aq ww own hS hBg fr kn => .inl ⟨trivial, fun K hK => act_arr rfl isArr12 fr.2.2.2.2.1 kn.1 (obAt kn.2.1) (fun w2 hg ho => hK _ _ ⟨⟨touch_only ho, obIn hg⟩, trivial⟩)⟩),
        -- 5
        (fun Q aq ww own hS hBg fr kn => .inl ⟨trivial, fun K hK => wp_value (exec_assign rfl kn.1) (hK _ _ ⟨Touch.refl _ _, rfl⟩)⟩),
        trivial⟩ ?_
  intro vs own v9 hT1 hsz kn inj
  clear inj hsz
  have q0 : SAt v9 (w.heap.size + 1 + 1) 31 162 hanZ := obAt kn.1
  have q1 : ArrAt v9 (w.heap.size + 1 + 1 + 1) .u8 26 12 (fun _ => 0) := obAt kn.2.1
  have e6 : vs 6 = _ := kn.2.2.1
  clear kn HL0 HL1
  replace hB : Below w.heap.size w v9 := ⟨hT1.os.trans hB.os, hT1.tape.trans hB.tape, hT1.output.trans hB.output, Nat.le_trans hB.size hT1.size, fun k hk => (hT1.block k (by have := hB.size; omega) (by omega)).trans (hB.block k hk)⟩
  simp only [putAll, Act.put, List.setIfInBounds_toArray, List.set_cons_zero, List.set_cons_succ, e6]
  go_wp2_with fail
  exact bodyPost_ret (v := .tuple #[.agg (SC 162 hanZ), .agg (WA .u8 12 (fun _ => 0)), .int .i64 X]) (res_sat Tryz.results11 isHand isArr12 q0 q1 (by rfl) (by rfl) (by rfl)) rfl ⟨rfl, hB⟩
end Go.Proofs.YthghcjepdhkfdaaGreatDoor

/-
  Own text. Marks by keys that are alike: the numbers of PolyCuts.
-/
namespace Go.Proofs.YthghcjepdhkfdaaGreatDoor
open Go.RowKit Go.Proofs
set_option maxRecDepth 100000
end Go.Proofs.YthghcjepdhkfdaaGreatDoor

/-
  Own text. Two ends come to keys that mirror one another: the numbers.
-/
namespace Go.Proofs.YthghcjepdhkfdaaGreatDoor
open Go.RowKit Go.Proofs
set_option maxRecDepth 100000
end Go.Proofs.YthghcjepdhkfdaaGreatDoor

/-
  Own text. Package noise: the steps of the first message.
-/
namespace Go.Proofs.YthghcjepdhkfdaaGreatDoor
open Go.RowKit Go.Proofs
set_option maxRecDepth 100000
theorem enterPub (args : Array Value) (w : World) : (callFunc 18 args).run Tryz.prog w = .ok (.enter 18 args) w := by kernel_rfl
set_option linter.unusedVariables false in
set_option maxHeartbeats 4000000 in
set_option maxRecDepth 100000 in
theorem begin_no1 (O P E T H0 C0 : Nat → Int) (ix : Int) (w : World) (hE : Env w) (hO : Byts 32 O) (hP : Byts 32 P) (hEk : Byts 32 E) (hT : Byts 12 T) (hC0 : Byts 32 C0) (hH0 : Byts 32 H0) (hz : shZ E P = false)
    (hBeg : ∀ u, Env u → Calls Tryz.prog 78 #[.agg (WA .u8 32 P)] u fun e w' => ∃ b, u.heap.size ≤ b ∧ e = .returned (.pointer (some ⟨b, 0, none⟩)) ∧ KtAt w' b H0 C0 (fun _ => 0) ∧ Below u.heap.size u w') :
    Calls Tryz.prog 36 #[.agg (WA .u8 32 O), .agg (WA .u8 32 P), .agg (WA .u8 32 E), .agg (WA .u8 12 T), .int .u32 ix] w fun e w' => e = gup 18 ∧ Below w.heap.size w w' := by
  have hb4 : Below (((((w.alloc (.cells (WA .u8 32 O) 22)).alloc (.cells (WA .u8 32 P) 22)).alloc (.cells (WA .u8 32 E) 22)).alloc (.cells (WA .u8 12 T) 26))).heap.size ((((w.alloc (.cells (WA .u8 32 O) 22)).alloc (.cells (WA .u8 32 P) 22)).alloc (.cells (WA .u8 32 E) 22)).alloc (.cells (WA .u8 12 T) 26)) (((((w.alloc (.cells (WA .u8 32 O) 22)).alloc (.cells (WA .u8 32 P) 22)).alloc (.cells (WA .u8 32 E) 22)).alloc (.cells (WA .u8 12 T) 26)).alloc (.cells Tryz.zeroCells31 31)) := (Below.refl _ _).alloc (Nat.le_refl _) _
  have g0 : ArrAt (((((w.alloc (.cells (WA .u8 32 O) 22)).alloc (.cells (WA .u8 32 P) 22)).alloc (.cells (WA .u8 32 E) 22)).alloc (.cells (WA .u8 12 T) 26)).alloc (.cells Tryz.zeroCells31 31)) w.heap.size .u8 22 32 O := ArrAt.kept (heap_a41 w _ _ _ _) hb4
  have g1 : ArrAt (((((w.alloc (.cells (WA .u8 32 O) 22)).alloc (.cells (WA .u8 32 P) 22)).alloc (.cells (WA .u8 32 E) 22)).alloc (.cells (WA .u8 12 T) 26)).alloc (.cells Tryz.zeroCells31 31)) (w.heap.size + 1) .u8 22 32 P := ArrAt.kept (heap_a42 w _ _ _ _) hb4
  have g2 : ArrAt (((((w.alloc (.cells (WA .u8 32 O) 22)).alloc (.cells (WA .u8 32 P) 22)).alloc (.cells (WA .u8 32 E) 22)).alloc (.cells (WA .u8 12 T) 26)).alloc (.cells Tryz.zeroCells31 31)) (w.heap.size + 1 + 1) .u8 22 32 E := ArrAt.kept (heap_a43 w _ _ _ _) hb4
  have g3 : ArrAt (((((w.alloc (.cells (WA .u8 32 O) 22)).alloc (.cells (WA .u8 32 P) 22)).alloc (.cells (WA .u8 32 E) 22)).alloc (.cells (WA .u8 12 T) 26)).alloc (.cells Tryz.zeroCells31 31)) (w.heap.size + 1 + 1 + 1) .u8 26 12 T := ArrAt.kept (heap_a4 w _ _ _ _) hb4
  have gH : SAt (((((w.alloc (.cells (WA .u8 32 O) 22)).alloc (.cells (WA .u8 32 P) 22)).alloc (.cells (WA .u8 32 E) 22)).alloc (.cells (WA .u8 12 T) 26)).alloc (.cells Tryz.zeroCells31 31)) (w.heap.size + 1 + 1 + 1 + 1) 31 162 hanZ := by
    have h := heap_alloc_new ((((w.alloc (.cells (WA .u8 32 O) 22)).alloc (.cells (WA .u8 32 P) 22)).alloc (.cells (WA .u8 32 E) 22)).alloc (.cells (WA .u8 12 T) 26)) (.cells Tryz.zeroCells31 31)
    have e : (((((w.alloc (.cells (WA .u8 32 O) 22)).alloc (.cells (WA .u8 32 P) 22)).alloc (.cells (WA .u8 32 E) 22)).alloc (.cells (WA .u8 12 T) 26))).heap.size = w.heap.size + 1 + 1 + 1 + 1 := by simp
    rw [e] at h
    unfold SAt
    rw [← zeroHand]
    exact h
  have hB : Below w.heap.size w (((((w.alloc (.cells (WA .u8 32 O) 22)).alloc (.cells (WA .u8 32 P) 22)).alloc (.cells (WA .u8 32 E) 22)).alloc (.cells (WA .u8 12 T) 26)).alloc (.cells Tryz.zeroCells31 31)) := (((((Below.refl _ w).alloc (by simp) _).alloc (by simp) _).alloc (by simp; omega) _).alloc (by simp; omega) _).alloc (by simp; omega) _
  replace hE := hE.kept hB
  have HOO := Hid.mk hO
  have HEE := Hid.mk hEk
  clear hb4
  go_enter Tryz.func36, Tryz.ntmps36
  go_wp2_with fail
  refine wp_gen (fun v => ArrAt v w.heap.size .u8 22 32 O ∧ ArrAt v (w.heap.size + 1) .u8 22 32 P ∧ ArrAt v (w.heap.size + 1 + 1) .u8 22 32 E ∧ ArrAt v (w.heap.size + 1 + 1 + 1) .u8 26 12 T ∧ SAt v (w.heap.size + 1 + 1 + 1 + 1) 31 162 hanZ ∧ Below w.heap.size w v ∧ Env v) ⟨g0, g1, g2, g3, gH, hB, hE⟩ ?_
  clear g0 g1 g2 g3 gH hB hE
  rintro v0 ⟨g0, g1, g2, g3, gH, hB, hE⟩
  have HG0 : Hid (∀ u, Below v0.heap.size v0 u → ArrAt u w.heap.size .u8 22 32 O) := Hid.mk (fun u hu => g0.kept hu)
  have HG2 : Hid (∀ u, Below v0.heap.size v0 u → ArrAt u (w.heap.size + 1 + 1) .u8 22 32 E) := Hid.mk (fun u hu => g2.kept hu)
  have HP : Hid (∀ u, Below v0.heap.size v0 u → Fld.PrimeAt u) := Hid.mk (fun u hu => (hE.kept hu).2)
  have hHlt := gH.lt
  refine wp_region3 (Below v0.heap.size v0) v0.heap.size
      ([] : List (Nat × Cont))
      [kv (.agg (WA .u8 32 E)), kv (.agg (WA .u8 32 (pubF E))), kv (.agg (WA .u8 32 O)), kv (.agg (WA .u8 32 (pubF O))), kp (WA .u8 32 fun _ => 0) 22 6 (WA .u8 32 (pubF E)), kp (WA .u8 32 fun _ => 0) 22 7 (WA .u8 32 (pubF O)), .val fun _ => True, .val fun _ => True]
      [.none, .none, .none, .none, .none, .none, .own 4 1, .own 5 1]
      [some 18, some 19, some 20, some 21, some 12, some 13, none, none]
      [(7, .pointer (some ⟨(w.heap.size + 1 + 1), 0, none⟩)), (5, .pointer (some ⟨w.heap.size, 0, none⟩))]
      [[], [.slot 0], [], [.slot 2], [], [], [.slot 4, .cont 4 0, .slot 1], [.slot 5, .cont 5 0, .slot 3]]
      [.slot 4, .cont 4 1, .slot 5, .cont 5 1] [18, 19, 20, 21, 12, 13]
      rfl (by kernel_rfl) ⟨rfl, rfl, trivial⟩ (Below.refl _ v0).drew (Nat.le_refl _) trivial trivial (below_G (Nat.le_refl _) trivial)
      ⟨
        -- 0
        (fun Q aq ww own hS hBg fr kn => .inl ⟨trivial, fun K hK => wp_value (look_arr rfl isArr32 (HG2.out ww hS) fr.1) (hK _ _ ⟨Touch.refl _ _, rfl⟩)⟩),
        -- 1
        (fun Q aq ww own hS hBg fr kn => .inl ⟨trivial, fun K hK => stepc enterPub rfl (args1 kn.1) (Public_run E ww (HP.out ww hS) HEE.out) (fun w' hb => hK _ _ ⟨touch_below hb, rfl⟩)⟩),
        -- 2
        (fun Q aq ww own hS hBg fr kn => .inl ⟨trivial, fun K hK => wp_value (look_arr rfl isArr32 (HG0.out ww hS) fr.2.1) (hK _ _ ⟨Touch.refl _ _, rfl⟩)⟩),
        -- 3
        (fun Q aq ww own hS hBg fr kn => .inl ⟨trivial, fun K hK => stepc enterPub rfl (args1 kn.1) (Public_run O ww (HP.out ww hS) HOO.out) (fun w' hb => hK _ _ ⟨touch_below hb, rfl⟩)⟩),
        -- 4
        (fun Q aq ww own hS hBg fr kn => .inl ⟨trivial, fun K hK => act_alloc zero32 rfl (fun w' hb hg => hK _ _ ⟨touch_below hb, _, Nat.le_refl _, rfl, obIn hg⟩)⟩),
        -- 5
        (fun Q aq ww own hS hBg fr kn => .inl ⟨trivial, fun K hK => act_alloc zero32 rfl (fun w' hb hg => hK _ _ ⟨touch_below hb, _, Nat.le_refl _, rfl, obIn hg⟩)⟩),
        -- 6
        (fun Q aq ww own hS hBg fr kn => .inl ⟨trivial, fun K hK => act_arr rfl isArr32 kn.1.1 kn.2.2.1 (obAt kn.2.1) (fun w2 hg ho => hK _ _ ⟨touch_only ho, obIn hg, trivial⟩)⟩),
        -- 7
        (fun Q aq ww own hS hBg fr kn => .inl ⟨trivial, fun K hK => act_arr rfl isArr32 kn.1.1 kn.2.2.1 (obAt kn.2.1) (fun w2 hg ho => hK _ _ ⟨touch_only ho, obIn hg, trivial⟩)⟩),
        trivial⟩ ?_
  intro vs own v1 hb hs1 kn inj
  clear inj HG0 HG2 HP
  obtain ⟨k1, k2, k3, k4, -⟩ := kn
  obtain ⟨e12, hb12, _⟩ := k1
  obtain ⟨e13, hb13, _⟩ := k3
  change vs 12 = _ at e12
  change vs 13 = _ at e13
  have ge : ArrAt v1 (own 4) .u8 22 32 (pubF E) := obAt k2
  have gk : ArrAt v1 (own 5) .u8 22 32 (pubF O) := obAt k4
  clear k2 k4 hs1
  replace g0 := g0.kept hb
  replace g1 := g1.kept hb
  replace g2 := g2.kept hb
  replace g3 := g3.kept hb
  replace gH := gH.kept hb
  replace hE := hE.kept hb
  replace hB := hB.trans (hb.mono hB.size)
  clear hb
  
  simp only [putAll, Act.put, List.setIfInBounds_toArray, List.set_cons_zero, List.set_cons_succ, e12, e13]
  generalize own 4 = be at *
  generalize own 5 = bk at *
  clear e12 e13
  have hbe : w.heap.size + 1 + 1 + 1 + 1 + 1 ≤ be := by omega
  have hbk : w.heap.size + 1 + 1 + 1 + 1 + 1 ≤ bk := by omega
  clear hb12 hb13 hHlt
  go_wp2_with (refine ld_arr isArr32 g1 (by rfl) ?_)
  have hlt1 := ge.lt
  have hlt2 := gk.lt
  have hlt3 := gH.lt
  have hEt := hE.two
  have hBs := hB.size
  refine (hBeg _ hE).mono ?_
  rintro x v2 ⟨b, hbb, rfl, g, hb⟩
  have hb3 : 3 ≤ b := by omega
  have hbS : w.heap.size ≤ b := by omega
  replace g0 := g0.kept hb
  replace g1 := g1.kept hb
  replace g2 := g2.kept hb
  replace g3 := g3.kept hb
  replace gH := gH.kept hb
  replace ge := ge.kept hb
  replace gk := gk.kept hb
  replace hE := hE.kept hb
  replace hB := hB.trans (hb.mono hB.size)
  clear hb
  
  clear hBeg hEt hBs
  go_wp2_with (refine ld_arr isArr32 ge (by rfl) ?_)
  refine (ephemeralIn_run b H0 C0 _ (pubF E) _ hE hb3 g hH0 hC0 (pubF_b E 32)).mono ?_
  rintro x v3 ⟨rfl, g', t1⟩
  replace g0 := g0.tou t1 (by omega)
  replace g1 := g1.tou t1 (by omega)
  replace g2 := g2.tou t1 (by omega)
  replace g3 := g3.tou t1 (by omega)
  replace gH := gH.tou t1 (by omega)
  replace ge := ge.tou t1 (by omega)
  replace gk := gk.tou t1 (by omega)
  replace hE := hE.touch t1 hb3
  replace hB := belowT hB t1 hbS (Nat.le_refl _)
  clear t1
  
  clear g
  have g := g'
  clear g'
  have hC1 : Byts 32 (chn C0 (mkS 32 (pubF E)) 0) := chn_b _ _ 0 32
  have hH1 : Byts 32 (mixH H0 (mkS 32 (pubF E))) := mixH_b _ _ 32
  obtain ⟨C1, hC1e⟩ : ∃ X, chn C0 (mkS 32 (pubF E)) 0 = X := ⟨_, rfl⟩
  obtain ⟨H1, hH1e⟩ : ∃ X, mixH H0 (mkS 32 (pubF E)) = X := ⟨_, rfl⟩
  rw [hC1e] at g hC1
  rw [hH1e] at g hH1
  have hmf : ∀ (fn : Fn) (first cap : Array Value) (w : World), (Instr.makeFunc fn first cap).run Tryz.prog w = .ok (.func fn first cap) w := fun _ _ _ _ => rfl
  go_wp2_with (first | (refine ld_arr isArr32 g2 (by rfl) ?_) | (refine ld_arr isArr32 g1 (by rfl) ?_))
  refine (secret_no _ E P _ hE hEk hP hz).mono ?_
  rintro x v9 ⟨rfl, hb⟩
  exact ⟨rfl, rfl, hB.trans (hb.mono hB.size)⟩
end Go.Proofs.YthghcjepdhkfdaaGreatDoor

/-
  Own text. Package noise: the steps of reading the first message.
-/
namespace Go.Proofs.YthghcjepdhkfdaaGreatDoor
open Go.RowKit Go.Proofs
set_option maxRecDepth 100000
theorem zero12c (w : World) : (zeroValue 26).run Tryz.prog w = .ok (.agg (WA .u8 12 fun _ => 0)) w := by kernel_rfl
theorem wl_alloc12 {ops : Array Oper} {rest : List Oper} {d : Option Tmp} {t : TypeId} {ps : String} {af : Array Edge} {a : Act} {w : World} {Q : Exit → Act → World → Prop}
    (h : ∀ w', ArrAt w' w.heap.size .u8 26 12 (fun _ => 0) → Below w.heap.size w w' → wpList Tryz.prog ops Q rest (a.put d (.pointer (some ⟨w.heap.size, 0, none⟩))) w') :
    wpList Tryz.prog ops Q ({ dst := d, op := .alloc 26, type := t, pos := ps, after := af, guard := none } :: rest) a w :=
  wl_act rfl (act_alloc zero12c rfl (fun w' hb hg => h w' hg hb))
set_option linter.unusedVariables false in
set_option maxHeartbeats 4000000 in
set_option maxRecDepth 100000 in
theorem accept_form (O H0 C0 : Nat → Int) (m : ByteArray) (w : World) (hE : Env w) (hO : Byts 32 O) (hC0 : Byts 32 C0) (hH0 : Byts 32 H0) (hm : ¬ (m.size = 148 ∧ numA m 0 4 = 1))
    (hBeg : ∀ u, Env u → Calls Tryz.prog 78 #[.agg (WA .u8 32 (pubF O))] u fun e w' => ∃ b, u.heap.size ≤ b ∧ e = .returned (.pointer (some ⟨b, 0, none⟩)) ∧ KtAt w' b H0 C0 (fun _ => 0) ∧ Below u.heap.size u w') :
    Calls Tryz.prog 46 #[.agg (WA .u8 32 O), .string m] w fun e w' => e = gup (if m.size = 148 then 11 else 10) ∧ Below w.heap.size w w' := by
  have g0 : ArrAt (((w.alloc (.cells (WA .u8 32 O) 22)).alloc (.cells Tryz.zeroCells31 31)).alloc (.cells (WA .u8 12 (fun _ => 0)) 26)) w.heap.size .u8 22 32 O := heap_a31 w _ _ _
  have gH : SAt (((w.alloc (.cells (WA .u8 32 O) 22)).alloc (.cells Tryz.zeroCells31 31)).alloc (.cells (WA .u8 12 (fun _ => 0)) 26)) (w.heap.size + 1) 31 162 hanZ := by
    have h := heap_a32 w (.cells (WA .u8 32 O) 22) (.cells Tryz.zeroCells31 31) (.cells (WA .u8 12 (fun _ => 0)) 26)
    unfold SAt
    rw [← zeroHand]
    exact h
  have gS : ArrAt (((w.alloc (.cells (WA .u8 32 O) 22)).alloc (.cells Tryz.zeroCells31 31)).alloc (.cells (WA .u8 12 (fun _ => 0)) 26)) (w.heap.size + 1 + 1) .u8 26 12 (fun _ => 0) := heap_a3 w _ _ _
  have hB : Below w.heap.size w (((w.alloc (.cells (WA .u8 32 O) 22)).alloc (.cells Tryz.zeroCells31 31)).alloc (.cells (WA .u8 12 (fun _ => 0)) 26)) := (((Below.refl _ w).alloc (by simp) _).alloc (by simp) _).alloc (by simp; omega) _
  replace hE := hE.kept hB
  go_enter Tryz.func46, Tryz.ntmps46
  go_wp2_with fail
  refine (iniOf_no m _ hm).mono ?_
  rintro x v1 ⟨rfl, hb⟩
  exact ⟨rfl, rfl, hB.trans (hb.mono hB.size)⟩
end Go.Proofs.YthghcjepdhkfdaaGreatDoor

/-
  Own text. The document's answer for noise: stamps.
-/
namespace Go.Proofs.YthghcjepdhkfdaaGreatDoor
open Go.RowKit Go.Proofs
set_option maxRecDepth 100000
theorem isA12 : IsArr 26 12 := ⟨_, _, Tryz.underlying26, by kernel_rfl⟩
/-- Is the first of two rows greater, from place i on, within n places? -/
def latF (a b : Nat → Int) : Nat → Nat → Bool
  | 0, _ => false
  | n + 1, i => if a i = b i then latF a b n (i + 1) else decide (b i < a i)
set_option maxHeartbeats 1600000 in
theorem rLater_run (a b : Nat → Int) (w : World) :
    Calls Tryz.prog 33 #[.agg (WA .u8 12 a), .agg (WA .u8 12 b)] w fun e w' => e = .returned (.bool (latF a b 12 0)) ∧ Below w.heap.size w w' := by
  have g0 : ArrAt ((w.alloc (.cells (WA .u8 12 a) 26)).alloc (.cells (WA .u8 12 b) 26)) w.heap.size .u8 26 12 a := heap_alloc2_old w _ _
  have g1 : ArrAt ((w.alloc (.cells (WA .u8 12 a) 26)).alloc (.cells (WA .u8 12 b) 26)) (w.heap.size + 1) .u8 26 12 b := heap_alloc2_new w _ _
  have hB : Below w.heap.size w ((w.alloc (.cells (WA .u8 12 a) 26)).alloc (.cells (WA .u8 12 b) 26)) := ((Below.refl _ w).alloc (by simp) _).alloc (by simp) _
  obtain ⟨z, hz⟩ : ∃ z, latF a b 12 0 = z := ⟨_, rfl⟩
  rw [hz]
  have HZ := Hid.mk hz
  clear hz
  go_enter Tryz.func33, Tryz.ntmps33
  go_wp2_with fail
  go_loopg [5] 12 (fun m iv v => ∃ i : Nat, Hid (m + i = 12) ∧ iv = .int .i64 (i : Int) ∧ Hid (latF a b (12 - i) i = z) ∧ ArrAt v w.heap.size .u8 26 12 a ∧ ArrAt v (w.heap.size + 1) .u8 26 12 b ∧ Below w.heap.size w v)
  case atStart => exact ⟨0, Hid.mk rfl, rfl, HZ, g0, g1, hB⟩
  case round =>
    clear g0 g1 hB
    obtain ⟨i, HI, rfl, HL, g0, g1, hB⟩ := hrel
    have hi : i ≤ 12 := by have := HI.out; omega
    by_cases hil : i < 12
    · have c0 := g0.cell i hil
      have c1 := g1.cell i hil
      have HS : Hid ((if a i = b i then latF a b (12 - (i + 1)) (i + 1) else decide (b i < a i)) = z) := Hid.mk (by
        have h := HL.out
        rw [show 12 - i = (12 - (i + 1)) + 1 by omega] at h
        exact h)
      clear HL
      generalize a i = x at *
      generalize b i = y at *
      by_cases hxy : x = y
      · have hd : (x == y) = true := by simpa using hxy
        have HN : Hid (latF a b (12 - (i + 1)) (i + 1) = z) := Hid.mk (by rw [← HS.out, if_pos hxy])
        clear HS
        go_wp2_with fail
        go_region
        go_wp2_with fail
        go_roundg (12 - (i + 1))
        case rel => exact ⟨i + 1, Hid.mk (by omega), by go_num, HN, g0, g1, hB.drew⟩
        case measure => have := HI.out; omega
      · have hd : (x == y) = false := by simpa using hxy
        have HN : Hid (decide (y < x) = z) := Hid.mk (by rw [← HS.out, if_neg hxy])
        clear HS
        go_wp2_with fail
        go_region
        go_wp2_with fail
        refine wp_gen (fun v => v.cell? ⟨w.heap.size, i, none⟩ = some (.int .u8 x) ∧ v.cell? ⟨w.heap.size + 1, i, none⟩ = some (.int .u8 y) ∧ Below w.heap.size w v) ⟨c0, c1, hB.drew⟩ ?_
        clear c0 c1 hB g0 g1
        rintro v0 ⟨c0, c1, hB⟩
        go_region
        go_wp2_with fail
        go_ret
        exact ⟨by rw [HN.out]; rfl, hB.drew⟩
    · have hi2 : i = 12 := by omega
      subst hi2
      have hzf : z = false := HL.out.symm
      go_wp2_with fail
      go_ret
      exact ⟨by rw [hzf]; rfl, hB⟩
/-- A time, kept within its bounds. -/
def nowC (n : Int) : Int := if n < 0 then 0 else if 1099511627776 < n then 1099511627776 else n
/-- The twelve bytes of a time. -/
def stmF (n : Int) (j : Nat) : Int := if j < 8 then (4611686018427387914 + nowC n / 1000) / 256 ^ (7 - j) % 256 else nowC n % 1000 * 1000000 / 256 ^ (11 - j) % 256
/-- The first loop's part of it, behind k rounds; then the second one's. -/
def hiS (A : Int) (k j : Nat) : Int := if j < 8 ∧ 8 ≤ j + k then A / 256 ^ (7 - j) % 256 else 0
def loS (A B : Int) (k j : Nat) : Int := if j < 8 then A / 256 ^ (7 - j) % 256 else if j < 12 ∧ 12 ≤ j + k then B / 256 ^ (11 - j) % 256 else 0
theorem hiS_next (A : Int) (k : Nat) (hk : k < 8) : upd (hiS A k) (7 - k) (A / 256 ^ k % 256) = hiS A (k + 1) := by
  funext j
  unfold upd hiS
  by_cases e : j = 7 - k
  · have r : j < 8 ∧ 8 ≤ j + (k + 1) := by omega
    rw [if_pos e, if_pos r, show 7 - j = k by omega]
  · rw [if_neg e]
    by_cases h : j < 8 ∧ 8 ≤ j + k
    · have r : j < 8 ∧ 8 ≤ j + (k + 1) := by omega
      rw [if_pos h, if_pos r]
    · have r : ¬ (j < 8 ∧ 8 ≤ j + (k + 1)) := by omega
      rw [if_neg h, if_neg r]
theorem loS_next (A B : Int) (k : Nat) (hk : k < 4) : upd (loS A B k) (11 - k) (B / 256 ^ k % 256) = loS A B (k + 1) := by
  funext j
  unfold upd loS
  by_cases e : j = 11 - k
  · have r0 : ¬ j < 8 := by omega
    have r : j < 12 ∧ 12 ≤ j + (k + 1) := by omega
    rw [if_pos e, if_neg r0, if_pos r, show 11 - j = k by omega]
  · rw [if_neg e]
    by_cases h0 : j < 8
    · rw [if_pos h0, if_pos h0]
    · rw [if_neg h0, if_neg h0]
      by_cases h : j < 12 ∧ 12 ≤ j + k
      · have r : j < 12 ∧ 12 ≤ j + (k + 1) := by omega
        rw [if_pos h, if_pos r]
      · have r : ¬ (j < 12 ∧ 12 ≤ j + (k + 1)) := by omega
        rw [if_neg h, if_neg r]
theorem div_pow7 (A : Int) (k : Nat) (hA : 0 ≤ A) : (A / 256 ^ k).tdiv 256 = A / 256 ^ (k + 1) := by
  rw [Int.tdiv_eq_ediv_of_nonneg (Int.ediv_nonneg hA (Int.le_of_lt (Int.pow_pos (by omega)))), Int.pow_succ, Int.ediv_ediv_of_nonneg (Int.le_of_lt (Int.pow_pos (by omega)))]
theorem mod_pow (A : Int) (k : Nat) (hA : 0 ≤ A) : (A / 256 ^ k).tmod 256 = A / 256 ^ k % 256 :=
  Int.tmod_eq_emod_of_nonneg (Int.ediv_nonneg hA (Int.le_of_lt (Int.pow_pos (by omega))))
theorem div_le (A : Int) (k : Nat) (hA : 0 ≤ A) : 0 ≤ A / 256 ^ k ∧ A / 256 ^ k ≤ A := by
  have hp : (0 : Int) < 256 ^ k := Int.pow_pos (by omega)
  exact ⟨Int.ediv_nonneg hA (Int.le_of_lt hp), Int.ediv_le_self _ hA⟩
set_option maxHeartbeats 3200000 in
theorem rStamp_run (n : Int) (w : World) :
    Calls Tryz.prog 31 #[.int .i64 n] w fun e w' => e = .returned (.agg (WA .u8 12 (stmF n))) ∧ Below w.heap.size w w' := by
  have HF : Hid (∀ j, j < 12 → loS (4611686018427387914 + nowC n / 1000) (nowC n % 1000 * 1000000) 4 j = stmF n j) := Hid.mk (fun j hj => by
    unfold loS stmF
    by_cases h : j < 8
    · rw [if_pos h, if_pos h]
    · have r : j < 12 ∧ 12 ≤ j + 4 := by omega
      rw [if_neg h, if_neg h, if_pos r])
  generalize stmF n = Z at *
  have hn0 : 0 ≤ nowC n ∧ nowC n ≤ 1099511627776 := by unfold nowC; split; omega; split <;> omega
  by_cases h1 : n < 0
  · have e : nowC n = 0 := by unfold nowC; rw [if_pos h1]
    rw [e] at HF hn0
    clear e
    have g0 : ArrAt ((w.alloc (.cells (WA .u8 12 fun _ => 0) 26)).alloc (.cells (WA .u8 12 fun _ => 0) 26)) w.heap.size .u8 26 12 (fun _ => 0) := heap_alloc2_old w _ _
    have g1 : ArrAt ((w.alloc (.cells (WA .u8 12 fun _ => 0) 26)).alloc (.cells (WA .u8 12 fun _ => 0) 26)) (w.heap.size + 1) .u8 26 12 (fun _ => 0) := heap_alloc2_new w _ _
    have hB : Below w.heap.size w ((w.alloc (.cells (WA .u8 12 fun _ => 0) 26)).alloc (.cells (WA .u8 12 fun _ => 0) 26)) := ((Below.refl _ w).alloc (by simp) _).alloc (by simp) _
    have q1 : (0 : Int).tdiv 1000 = 0 / 1000 := Int.tdiv_eq_ediv_of_nonneg (by omega)
    have q2 : (0 : Int).tmod 1000 = 0 % 1000 := Int.tmod_eq_emod_of_nonneg (by omega)
    obtain ⟨A, hA⟩ : ∃ A, 4611686018427387914 + (0 : Int) / 1000 = A := ⟨_, rfl⟩
    obtain ⟨B, hBv⟩ : ∃ B, (0 : Int) % 1000 * 1000000 = B := ⟨_, rfl⟩
    have hAw := i64_wrap (n := 4611686018427387914 + (0 : Int) / 1000) (by omega) (by omega)
    have hBw := i64_wrap (n := (0 : Int) % 1000 * 1000000) (by omega) (by omega)
    rw [hA] at hAw
    rw [hBv] at hBw
    have hA0 : 0 ≤ A ∧ A < 9223372036854775808 := by omega
    have hB0 : 0 ≤ B ∧ B < 9223372036854775808 := by omega
    rw [hA, hBv] at HF
    go_enter Tryz.func31, Tryz.ntmps31
    go_wp2_with fail
    go_loopg [3, 6] 8 (fun gm av iv v => ∃ k : Nat, Hid (gm + k = 8) ∧ av = .int .i64 (A / 256 ^ k) ∧ iv = .int .i64 (7 - (k : Int)) ∧ ArrAt v w.heap.size .u8 26 12 (fun _ => 0) ∧ ArrAt v (w.heap.size + 1) .u8 26 12 (hiS A k) ∧ Below w.heap.size w v)
    case atStart => exact ⟨0, Hid.mk rfl, by first | (rw [Int.pow_zero, Int.ediv_one]; done) | (rw [Int.pow_zero, Int.ediv_one, ← hA]; rfl), by simp, g0, g1.congr (fun j _ => by unfold hiS; rw [if_neg (by omega)]), hB⟩
    case round =>
      clear g0 g1 hB
      obtain ⟨k, HK, rfl, rfl, g0, g1, hB⟩ := hrel
      have hk8 : k ≤ 8 := by have := HK.out; omega
      by_cases hk : k < 8
      · obtain ⟨p, hp⟩ : ∃ p : Nat, p = 7 - k := ⟨_, rfl⟩
        have hpI : (7 : Int) - (k : Int) = (p : Int) := by omega
        rw [hpI]
        have c1 := g1.cell p (by omega)
        have f1 := g1.free p
        have HG := Hid.mk (g1.set p (A / 256 ^ k % 256) (by omega))
        rw [hp, hiS_next A k hk, ← hp] at HG
        have e1 := mod_pow A k hA0.1
        have e2 := div_pow7 A k hA0.1
        have e3 := div_le A k hA0.1
        have e4 := div_le A (k + 1) hA0.1
        have HPN : Hid ((p : Int) - 1 = 7 - ((k + 1 : Nat) : Int)) := Hid.mk (by omega)
        generalize A / 256 ^ k = a0 at *
        generalize hA1 : A / 256 ^ (k + 1) = a1 at *
        have HA1 : Hid (Value.int .i64 a1 = Value.int .i64 (A / 256 ^ (k + 1))) := Hid.mk (by rw [hA1])
        clear hA1
        have hp0 : p ≤ 7 := by omega
        clear hp hpI
        go_wp2_with fail
        go_roundg (8 - (k + 1))
        case rel => exact ⟨k + 1, Hid.mk (by omega), HA1.out, congrArg (Value.int .i64) HPN.out, g0.other _ (by omega), HG.out, Below.setCell hB (by simp) _⟩
        case measure => have := HK.out; omega
      · have hk2 : k = 8 := by omega
        subst hk2
        replace g1 := g1.congr (s' := loS A B 0) (fun j hj => by
          unfold hiS loS
          by_cases h : j < 8
          · rw [if_pos (by omega), if_pos h]
          · rw [if_neg (by omega), if_neg h, if_neg (by omega)])
        clear hk hk8 HK
        generalize A / 256 ^ 8 = a8 at *
        go_wp2_with fail
        generalize wr = wo at *
        generalize gk = gz at *
        go_loopg [4, 7] 4 (fun gm av iv v => ∃ k : Nat, Hid (gm + k = 4) ∧ av = .int .i64 (B / 256 ^ k) ∧ iv = .int .i64 (11 - (k : Int)) ∧ ArrAt v w.heap.size .u8 26 12 (fun _ => 0) ∧ ArrAt v (w.heap.size + 1) .u8 26 12 (loS A B k) ∧ Below w.heap.size w v)
        case atStart => exact ⟨0, Hid.mk rfl, by first | (rw [Int.pow_zero, Int.ediv_one]; done) | (rw [Int.pow_zero, Int.ediv_one, ← hBv]; rfl), by simp, g0, g1, hB⟩
        case round =>
          clear g0 g1 hB
          obtain ⟨k, HK, rfl, rfl, g0, g1, hB⟩ := hrel
          have hk4 : k ≤ 4 := by have := HK.out; omega
          by_cases hk : k < 4
          · obtain ⟨p, hp⟩ : ∃ p : Nat, p = 11 - k := ⟨_, rfl⟩
            have hpI : (11 : Int) - (k : Int) = (p : Int) := by omega
            rw [hpI]
            have c1 := g1.cell p (by omega)
            have f1 := g1.free p
            have HG := Hid.mk (g1.set p (B / 256 ^ k % 256) (by omega))
            rw [hp, loS_next A B k hk, ← hp] at HG
            have e1 := mod_pow B k hB0.1
            have e2 := div_pow7 B k hB0.1
            have e3 := div_le B k hB0.1
            have e4 := div_le B (k + 1) hB0.1
            have HPN : Hid ((p : Int) - 1 = 11 - ((k + 1 : Nat) : Int)) := Hid.mk (by omega)
            generalize B / 256 ^ k = a0 at *
            generalize hA1 : B / 256 ^ (k + 1) = a1 at *
            have HA1 : Hid (Value.int .i64 a1 = Value.int .i64 (B / 256 ^ (k + 1))) := Hid.mk (by rw [hA1])
            clear hA1
            have hp0 : 8 ≤ p ∧ p ≤ 11 := by omega
            clear hp hpI
            go_wp2_with fail
            go_roundg (4 - (k + 1))
            case rel => exact ⟨k + 1, Hid.mk (by omega), HA1.out, congrArg (Value.int .i64) HPN.out, g0.other _ (by omega), HG.out, Below.setCell hB (by simp) _⟩
            case measure => have := HK.out; omega
          · have hk2 : k = 4 := by omega
            subst hk2
            replace g1 := g1.congr (s' := Z) HF.out
            clear hk hk4 HK
            generalize B / 256 ^ 4 = b4 at *
            go_wp2_with (first | (refine ld_arr isA12 g1 (by rfl) ?_) | (refine st_arr isA12 g0 (by rfl) (by rfl) ?_; intro v7 g7 o7; refine Hid.out ?_))
            refine Hid.mk ?_
            go_wp2_with fail
            exact bodyPost_ret (res_arr Tryz.results31 isA12 g7 (by rfl)) rfl ⟨rfl, hB.trans (o7.below (Nat.le_refl _))⟩
  · by_cases h2 : 1099511627776 < n
    · have e : nowC n = 1099511627776 := by unfold nowC; rw [if_neg h1, if_pos h2]
      rw [e] at HF hn0
      clear e
      have g0 : ArrAt ((w.alloc (.cells (WA .u8 12 fun _ => 0) 26)).alloc (.cells (WA .u8 12 fun _ => 0) 26)) w.heap.size .u8 26 12 (fun _ => 0) := heap_alloc2_old w _ _
      have g1 : ArrAt ((w.alloc (.cells (WA .u8 12 fun _ => 0) 26)).alloc (.cells (WA .u8 12 fun _ => 0) 26)) (w.heap.size + 1) .u8 26 12 (fun _ => 0) := heap_alloc2_new w _ _
      have hB : Below w.heap.size w ((w.alloc (.cells (WA .u8 12 fun _ => 0) 26)).alloc (.cells (WA .u8 12 fun _ => 0) 26)) := ((Below.refl _ w).alloc (by simp) _).alloc (by simp) _
      have q1 : (1099511627776 : Int).tdiv 1000 = 1099511627776 / 1000 := Int.tdiv_eq_ediv_of_nonneg (by omega)
      have q2 : (1099511627776 : Int).tmod 1000 = 1099511627776 % 1000 := Int.tmod_eq_emod_of_nonneg (by omega)
      obtain ⟨A, hA⟩ : ∃ A, 4611686018427387914 + (1099511627776 : Int) / 1000 = A := ⟨_, rfl⟩
      obtain ⟨B, hBv⟩ : ∃ B, (1099511627776 : Int) % 1000 * 1000000 = B := ⟨_, rfl⟩
      have hAw := i64_wrap (n := 4611686018427387914 + (1099511627776 : Int) / 1000) (by omega) (by omega)
      have hBw := i64_wrap (n := (1099511627776 : Int) % 1000 * 1000000) (by omega) (by omega)
      rw [hA] at hAw
      rw [hBv] at hBw
      have hA0 : 0 ≤ A ∧ A < 9223372036854775808 := by omega
      have hB0 : 0 ≤ B ∧ B < 9223372036854775808 := by omega
      rw [hA, hBv] at HF
      go_enter Tryz.func31, Tryz.ntmps31
      go_wp2_with fail
      go_loopg [3, 6] 8 (fun gm av iv v => ∃ k : Nat, Hid (gm + k = 8) ∧ av = .int .i64 (A / 256 ^ k) ∧ iv = .int .i64 (7 - (k : Int)) ∧ ArrAt v w.heap.size .u8 26 12 (fun _ => 0) ∧ ArrAt v (w.heap.size + 1) .u8 26 12 (hiS A k) ∧ Below w.heap.size w v)
      case atStart => exact ⟨0, Hid.mk rfl, by first | (rw [Int.pow_zero, Int.ediv_one]; done) | (rw [Int.pow_zero, Int.ediv_one, ← hA]; rfl), by simp, g0, g1.congr (fun j _ => by unfold hiS; rw [if_neg (by omega)]), hB⟩
      case round =>
        clear g0 g1 hB
        obtain ⟨k, HK, rfl, rfl, g0, g1, hB⟩ := hrel
        have hk8 : k ≤ 8 := by have := HK.out; omega
        by_cases hk : k < 8
        · obtain ⟨p, hp⟩ : ∃ p : Nat, p = 7 - k := ⟨_, rfl⟩
          have hpI : (7 : Int) - (k : Int) = (p : Int) := by omega
          rw [hpI]
          have c1 := g1.cell p (by omega)
          have f1 := g1.free p
          have HG := Hid.mk (g1.set p (A / 256 ^ k % 256) (by omega))
          rw [hp, hiS_next A k hk, ← hp] at HG
          have e1 := mod_pow A k hA0.1
          have e2 := div_pow7 A k hA0.1
          have e3 := div_le A k hA0.1
          have e4 := div_le A (k + 1) hA0.1
          have HPN : Hid ((p : Int) - 1 = 7 - ((k + 1 : Nat) : Int)) := Hid.mk (by omega)
          generalize A / 256 ^ k = a0 at *
          generalize hA1 : A / 256 ^ (k + 1) = a1 at *
          have HA1 : Hid (Value.int .i64 a1 = Value.int .i64 (A / 256 ^ (k + 1))) := Hid.mk (by rw [hA1])
          clear hA1
          have hp0 : p ≤ 7 := by omega
          clear hp hpI
          go_wp2_with fail
          go_roundg (8 - (k + 1))
          case rel => exact ⟨k + 1, Hid.mk (by omega), HA1.out, congrArg (Value.int .i64) HPN.out, g0.other _ (by omega), HG.out, Below.setCell hB (by simp) _⟩
          case measure => have := HK.out; omega
        · have hk2 : k = 8 := by omega
          subst hk2
          replace g1 := g1.congr (s' := loS A B 0) (fun j hj => by
            unfold hiS loS
            by_cases h : j < 8
            · rw [if_pos (by omega), if_pos h]
            · rw [if_neg (by omega), if_neg h, if_neg (by omega)])
          clear hk hk8 HK
          generalize A / 256 ^ 8 = a8 at *
          go_wp2_with fail
          generalize wr = wo at *
          generalize gk = gz at *
          go_loopg [4, 7] 4 (fun gm av iv v => ∃ k : Nat, Hid (gm + k = 4) ∧ av = .int .i64 (B / 256 ^ k) ∧ iv = .int .i64 (11 - (k : Int)) ∧ ArrAt v w.heap.size .u8 26 12 (fun _ => 0) ∧ ArrAt v (w.heap.size + 1) .u8 26 12 (loS A B k) ∧ Below w.heap.size w v)
          case atStart => exact ⟨0, Hid.mk rfl, by first | (rw [Int.pow_zero, Int.ediv_one]; done) | (rw [Int.pow_zero, Int.ediv_one, ← hBv]; rfl), by simp, g0, g1, hB⟩
          case round =>
            clear g0 g1 hB
            obtain ⟨k, HK, rfl, rfl, g0, g1, hB⟩ := hrel
            have hk4 : k ≤ 4 := by have := HK.out; omega
            by_cases hk : k < 4
            · obtain ⟨p, hp⟩ : ∃ p : Nat, p = 11 - k := ⟨_, rfl⟩
              have hpI : (11 : Int) - (k : Int) = (p : Int) := by omega
              rw [hpI]
              have c1 := g1.cell p (by omega)
              have f1 := g1.free p
              have HG := Hid.mk (g1.set p (B / 256 ^ k % 256) (by omega))
              rw [hp, loS_next A B k hk, ← hp] at HG
              have e1 := mod_pow B k hB0.1
              have e2 := div_pow7 B k hB0.1
              have e3 := div_le B k hB0.1
              have e4 := div_le B (k + 1) hB0.1
              have HPN : Hid ((p : Int) - 1 = 11 - ((k + 1 : Nat) : Int)) := Hid.mk (by omega)
              generalize B / 256 ^ k = a0 at *
              generalize hA1 : B / 256 ^ (k + 1) = a1 at *
              have HA1 : Hid (Value.int .i64 a1 = Value.int .i64 (B / 256 ^ (k + 1))) := Hid.mk (by rw [hA1])
              clear hA1
              have hp0 : 8 ≤ p ∧ p ≤ 11 := by omega
              clear hp hpI
              go_wp2_with fail
              go_roundg (4 - (k + 1))
              case rel => exact ⟨k + 1, Hid.mk (by omega), HA1.out, congrArg (Value.int .i64) HPN.out, g0.other _ (by omega), HG.out, Below.setCell hB (by simp) _⟩
              case measure => have := HK.out; omega
            · have hk2 : k = 4 := by omega
              subst hk2
              replace g1 := g1.congr (s' := Z) HF.out
              clear hk hk4 HK
              generalize B / 256 ^ 4 = b4 at *
              go_wp2_with (first | (refine ld_arr isA12 g1 (by rfl) ?_) | (refine st_arr isA12 g0 (by rfl) (by rfl) ?_; intro v7 g7 o7; refine Hid.out ?_))
              refine Hid.mk ?_
              go_wp2_with fail
              exact bodyPost_ret (res_arr Tryz.results31 isA12 g7 (by rfl)) rfl ⟨rfl, hB.trans (o7.below (Nat.le_refl _))⟩
    · have e : nowC n = n := by unfold nowC; rw [if_neg h1, if_neg h2]
      rw [e] at HF hn0
      clear e
      have g0 : ArrAt ((w.alloc (.cells (WA .u8 12 fun _ => 0) 26)).alloc (.cells (WA .u8 12 fun _ => 0) 26)) w.heap.size .u8 26 12 (fun _ => 0) := heap_alloc2_old w _ _
      have g1 : ArrAt ((w.alloc (.cells (WA .u8 12 fun _ => 0) 26)).alloc (.cells (WA .u8 12 fun _ => 0) 26)) (w.heap.size + 1) .u8 26 12 (fun _ => 0) := heap_alloc2_new w _ _
      have hB : Below w.heap.size w ((w.alloc (.cells (WA .u8 12 fun _ => 0) 26)).alloc (.cells (WA .u8 12 fun _ => 0) 26)) := ((Below.refl _ w).alloc (by simp) _).alloc (by simp) _
      have q1 : (n : Int).tdiv 1000 = n / 1000 := Int.tdiv_eq_ediv_of_nonneg (by omega)
      have q2 : (n : Int).tmod 1000 = n % 1000 := Int.tmod_eq_emod_of_nonneg (by omega)
      obtain ⟨A, hA⟩ : ∃ A, 4611686018427387914 + (n : Int) / 1000 = A := ⟨_, rfl⟩
      obtain ⟨B, hBv⟩ : ∃ B, (n : Int) % 1000 * 1000000 = B := ⟨_, rfl⟩
      have hAw := i64_wrap (n := 4611686018427387914 + (n : Int) / 1000) (by omega) (by omega)
      have hBw := i64_wrap (n := (n : Int) % 1000 * 1000000) (by omega) (by omega)
      rw [hA] at hAw
      rw [hBv] at hBw
      have hA0 : 0 ≤ A ∧ A < 9223372036854775808 := by omega
      have hB0 : 0 ≤ B ∧ B < 9223372036854775808 := by omega
      rw [hA, hBv] at HF
      go_enter Tryz.func31, Tryz.ntmps31
      go_wp2_with fail
      go_loopg [3, 6] 8 (fun gm av iv v => ∃ k : Nat, Hid (gm + k = 8) ∧ av = .int .i64 (A / 256 ^ k) ∧ iv = .int .i64 (7 - (k : Int)) ∧ ArrAt v w.heap.size .u8 26 12 (fun _ => 0) ∧ ArrAt v (w.heap.size + 1) .u8 26 12 (hiS A k) ∧ Below w.heap.size w v)
      case atStart => exact ⟨0, Hid.mk rfl, by first | (rw [Int.pow_zero, Int.ediv_one]; done) | (rw [Int.pow_zero, Int.ediv_one, ← hA]; rfl), by simp, g0, g1.congr (fun j _ => by unfold hiS; rw [if_neg (by omega)]), hB⟩
      case round =>
        clear g0 g1 hB
        obtain ⟨k, HK, rfl, rfl, g0, g1, hB⟩ := hrel
        have hk8 : k ≤ 8 := by have := HK.out; omega
        by_cases hk : k < 8
        · obtain ⟨p, hp⟩ : ∃ p : Nat, p = 7 - k := ⟨_, rfl⟩
          have hpI : (7 : Int) - (k : Int) = (p : Int) := by omega
          rw [hpI]
          have c1 := g1.cell p (by omega)
          have f1 := g1.free p
          have HG := Hid.mk (g1.set p (A / 256 ^ k % 256) (by omega))
          rw [hp, hiS_next A k hk, ← hp] at HG
          have e1 := mod_pow A k hA0.1
          have e2 := div_pow7 A k hA0.1
          have e3 := div_le A k hA0.1
          have e4 := div_le A (k + 1) hA0.1
          have HPN : Hid ((p : Int) - 1 = 7 - ((k + 1 : Nat) : Int)) := Hid.mk (by omega)
          generalize A / 256 ^ k = a0 at *
          generalize hA1 : A / 256 ^ (k + 1) = a1 at *
          have HA1 : Hid (Value.int .i64 a1 = Value.int .i64 (A / 256 ^ (k + 1))) := Hid.mk (by rw [hA1])
          clear hA1
          have hp0 : p ≤ 7 := by omega
          clear hp hpI
          go_wp2_with fail
          go_roundg (8 - (k + 1))
          case rel => exact ⟨k + 1, Hid.mk (by omega), HA1.out, congrArg (Value.int .i64) HPN.out, g0.other _ (by omega), HG.out, Below.setCell hB (by simp) _⟩
          case measure => have := HK.out; omega
        · have hk2 : k = 8 := by omega
          subst hk2
          replace g1 := g1.congr (s' := loS A B 0) (fun j hj => by
            unfold hiS loS
            by_cases h : j < 8
            · rw [if_pos (by omega), if_pos h]
            · rw [if_neg (by omega), if_neg h, if_neg (by omega)])
          clear hk hk8 HK
          generalize A / 256 ^ 8 = a8 at *
          go_wp2_with fail
          generalize wr = wo at *
          generalize gk = gz at *
          go_loopg [4, 7] 4 (fun gm av iv v => ∃ k : Nat, Hid (gm + k = 4) ∧ av = .int .i64 (B / 256 ^ k) ∧ iv = .int .i64 (11 - (k : Int)) ∧ ArrAt v w.heap.size .u8 26 12 (fun _ => 0) ∧ ArrAt v (w.heap.size + 1) .u8 26 12 (loS A B k) ∧ Below w.heap.size w v)
          case atStart => exact ⟨0, Hid.mk rfl, by first | (rw [Int.pow_zero, Int.ediv_one]; done) | (rw [Int.pow_zero, Int.ediv_one, ← hBv]; rfl), by simp, g0, g1, hB⟩
          case round =>
            clear g0 g1 hB
            obtain ⟨k, HK, rfl, rfl, g0, g1, hB⟩ := hrel
            have hk4 : k ≤ 4 := by have := HK.out; omega
            by_cases hk : k < 4
            · obtain ⟨p, hp⟩ : ∃ p : Nat, p = 11 - k := ⟨_, rfl⟩
              have hpI : (11 : Int) - (k : Int) = (p : Int) := by omega
              rw [hpI]
              have c1 := g1.cell p (by omega)
              have f1 := g1.free p
              have HG := Hid.mk (g1.set p (B / 256 ^ k % 256) (by omega))
              rw [hp, loS_next A B k hk, ← hp] at HG
              have e1 := mod_pow B k hB0.1
              have e2 := div_pow7 B k hB0.1
              have e3 := div_le B k hB0.1
              have e4 := div_le B (k + 1) hB0.1
              have HPN : Hid ((p : Int) - 1 = 11 - ((k + 1 : Nat) : Int)) := Hid.mk (by omega)
              generalize B / 256 ^ k = a0 at *
              generalize hA1 : B / 256 ^ (k + 1) = a1 at *
              have HA1 : Hid (Value.int .i64 a1 = Value.int .i64 (B / 256 ^ (k + 1))) := Hid.mk (by rw [hA1])
              clear hA1
              have hp0 : 8 ≤ p ∧ p ≤ 11 := by omega
              clear hp hpI
              go_wp2_with fail
              go_roundg (4 - (k + 1))
              case rel => exact ⟨k + 1, Hid.mk (by omega), HA1.out, congrArg (Value.int .i64) HPN.out, g0.other _ (by omega), HG.out, Below.setCell hB (by simp) _⟩
              case measure => have := HK.out; omega
            · have hk2 : k = 4 := by omega
              subst hk2
              replace g1 := g1.congr (s' := Z) HF.out
              clear hk hk4 HK
              generalize B / 256 ^ 4 = b4 at *
              go_wp2_with (first | (refine ld_arr isA12 g1 (by rfl) ?_) | (refine st_arr isA12 g0 (by rfl) (by rfl) ?_; intro v7 g7 o7; refine Hid.out ?_))
              refine Hid.mk ?_
              go_wp2_with fail
              exact bodyPost_ret (res_arr Tryz.results31 isA12 g7 (by rfl)) rfl ⟨rfl, hB.trans (o7.below (Nat.le_refl _))⟩
end Go.Proofs.YthghcjepdhkfdaaGreatDoor

