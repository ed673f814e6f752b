/-
  Own text. What Stream of package chacha gives.
-/
import Derived.Test.YthghcjepdhkfdaaGreatDoorJM3
import Derived.Laws.IdiomStrings
import Derived.Laws.AppendOwnNone
import Derived.Test.YthghcjepdhkfdaaGreatDoorJM1
import Derived.Test.YthghcjepdhkfdaaGreatDoorJM2
import Derived.OrdersHeld
import Derived.Laws.World
import Derived.Deep.MidRow
namespace Go.Proofs.YthghcjepdhkfdaaGreatDoor
open Go.RowKit Go.Proofs
set_option maxRecDepth 100000
def ksb (key nonce : Nat → Int) (c : Int) (j : Nat) : Int := blk (ssq key ((c + (j / 64 : Nat)) % 4294967296) nonce 3) (j % 64)
def strm (key nonce : Nat → Int) (c : Int) (s : ByteArray) (j : Nat) : Int := xorw (txt s j) (ksb key nonce c j)
theorem ssq_12 (key nonce : Nat → Int) (c d : Int) (k : Nat) : upd (ssq key c nonce k) 12 d = ssq key d nonce k := by
 funext i
 unfold upd ssq
 split <;> rfl
theorem ahead_sq (key nonce : Nat → Int) (c : Int) (k : Nat) : upd (ssq key c nonce 3) 12 (addw (ssq key c nonce 3 12) ((k : Int) % 4294967296)) = ssq key ((c + (k : Nat)) % 4294967296) nonce 3 := by
 rw [ssq_12, show ssq key c nonce 3 12 = c from rfl]
 unfold addw
 congr 1
 omega
def xo (b p : Nat → Int) (j : Nat) (i : Nat) : Int := if i < j then xorw (b i) (p i) else b i
theorem xo_step (b p : Nat → Int) (j : Nat) : upd (xo b p j) j (xorw (xo b p j j) (p j)) = xo b p (j + 1) := by
 funext i
 unfold upd xo
 by_cases e : i = j
 ·subst e; simp
 ·rw [if_neg e]
  by_cases h : i < j
  ·rw [if_pos h, if_pos (by omega)]
  ·rw [if_neg h, if_neg (by omega)]
theorem xo_b {b p : Nat → Int} {n : Nat} (j : Nat) (hb : ∀ i, i < n → 0 ≤ b i ∧ b i < 256) (hp : ∀ i, 0 ≤ p i ∧ p i < 256) : ∀ i, i < n → 0 ≤ xo b p j i ∧ xo b p j i < 256 := fun i hi => by
 unfold xo
 split
 ·exact xorw_b (hb i hi) (hp i)
 ·exact hb i hi
theorem blk_b (s : Nat → Int) : Byts 64 (blk s) := pw_byts _ _ _
theorem sl64H (b j : Nat) (w : World) (hj : j ≤ 64) : (Instr.sliceAt 183 (.pointer (some ⟨b, 0, none⟩)) none (some (.int .i64 (j : Int))) none).run Tryz.prog w = .ok (.slice (some ⟨b, 0, none⟩) j 64) w := by
 rw [run_sliceAt_array_h (P := Tryz.prog) w 183 ⟨b, 0, none⟩ Tryz.underlying183 .i64 (j : Int) (by omega) (by rw [len64]; omega), sizeB64, len64]
 simp only [Result.andThen_ok, slicedAt, Int.toNat_natCast, Nat.zero_mul]
 rw [if_neg (by omega), Addr.add_lit]
 simp
theorem strm_b (key nonce : Nat → Int) (c : Int) (s : ByteArray) (j : Nat) : 0 ≤ strm key nonce c s j ∧ strm key nonce c s j < 256 := xorw_b (txt_b s j) (blk_b _ _ (Nat.mod_lt _ (by decide)))
set_option maxHeartbeats 4000000 in
set_option maxRecDepth 100000 in
theorem Stream_run (key nonce : Nat → Int) (c : Int) (s : ByteArray) (w : World) (hk : Byts 32 key) (hn : Byts 12 nonce) (_hc : W32 c) (hs : s.size ≤ 140737488355328) :
  Calls Tryz.prog 149 #[.agg (WA .u8 32 key), .int .u32 c, .agg (WA .u8 12 nonce), .string s] w fun e w' => e = .returned (.string (mkS s.size (strm key nonce c s))) ∧ Below w.heap.size w w' := by
 have g0 : ArrAt ((w.alloc (.cells (WA .u8 32 key) 22)).alloc (.cells (WA .u8 12 nonce) 26)) w.heap.size .u8 22 32 key := heap_alloc2_old w _ _
 have g1 : ArrAt ((w.alloc (.cells (WA .u8 32 key) 22)).alloc (.cells (WA .u8 12 nonce) 26)) (w.heap.size + 1) .u8 26 12 nonce := heap_alloc2_new w _ _
 have hB : Below w.heap.size w ((w.alloc (.cells (WA .u8 32 key) 22)).alloc (.cells (WA .u8 12 nonce) 26)) := ((Below.refl _ w).alloc (by simp) _).alloc (by simp) _
 go_enter Tryz.func149, Tryz.ntmps149
 go_wp2_with (first | (refine ld_arr isArr32 g0 (by rfl) ?_) | (refine ld_arr isArr12 g1 (by rfl) ?_))
 refine (streamSquare_run key nonce c _ hk hn).mono ?_
 rintro e v1 ⟨rfl, hb⟩
 replace hB := hB.trans (hb.mono hB.size)
 clear hb g0 g1
 go_wp2_with (first | (refine st_arr (s' := fun _ => 0) (k' := .u32) isSq (heap_alloc_new v1 _) (by rfl) (by rfl) ?_; intro v2 g3 o3; refine Hid.out ?_))
 have hz9 : w.heap.size ≤ v1.heap.size := hB.size
 replace hB := (hB.alloc hB.size _).trans (o3.below hB.size)
 have hz1 := hB.size
 clear o3
 generalize v1.heap.size = b9 at *
 refine Hid.mk ?_
 go_wp2_with fail
 refine (grow_run v2.heap.size v2.heap.size s.size _ (Nat.le_refl _) (heap_alloc_new v2 _) (by simp) (by omega)).mono ?_
 rintro e v3 ⟨rfl, hD, hb3⟩
 have hz10 := g3.lt
 replace g3 := (g3.alloc _).below hb3 hz10
 replace hB := (hB.alloc hB.size _).trans (hb3.mono hz1)
 have hz3 : v2.heap.size ≤ v3.heap.size := Nat.le_trans (by simp) hb3.size
 clear hb3 hz1
 generalize v2.heap.size = b10 at *
 obtain ⟨N, hN⟩ : ∃ N : Nat, (s.size + 63) / 64 = N := ⟨_, rfl⟩
 have hq : ((s.size : Int) + 64 - 1).tdiv 64 = (N : Int) := by rw [Int.tdiv_eq_ediv_of_nonneg (by omega)]; omega
 have hN2 : (N : Int) < 9223372036854775807 := by omega
 go_wp2_with fail
 go_loopg [28] N (fun m i v => ∃ k : Nat, Hid (m + k = N) ∧ i = .int .i64 k ∧ ArrAt v b9 .u32 207 16 (ssq key c nonce 3) ∧ Bld v b10 b10 (min (64 * k) s.size) (strm key nonce c s) ∧ Below w.heap.size w v ∧ b10 ≤ v.heap.size)
 case atStart => exact ⟨0, Hid.mk (by omega), rfl, g3, by simpa using hD.congr (fun i hi => by omega), hB, hz3⟩
 case round =>
  clear g3 hD hB hz3
  obtain ⟨k, HK, rfl, g3, hD, hB, hz3⟩ := hrel
  have hkN : k ≤ N := by have := HK.out; omega
  by_cases hlt : k < N
  ·have hks : 64 * k < s.size := by omega
   go_wp2_with (first | (refine ld_arr isSq g3 (by rfl) ?_))
   refine (ahead_run _ _ _).mono ?_
   rintro e v4 ⟨rfl, hb4⟩
   rw [ahead_sq]
   have hW : ∀ i, i < 16 → W32 (ssq key ((c + (k : Nat)) % 4294967296) nonce 3 i) := ssq_w hk hn (by unfold W32; omega)
   have HB : Hid (blk (ssq key ((c + (k : Nat)) % 4294967296) nonce 3) = fun i => blk (ssq key ((c + (k : Nat)) % 4294967296) nonce 3) i) := Hid.mk rfl
   go_wp2_with fail
   refine (block_run _ _ hW).mono ?_
   rintro e v5 ⟨rfl, hb5⟩
   have hb45 : Below wr.heap.size wr v5 := hb4.trans (hb5.mono hb4.size)
   replace g3 := g3.kept hb45
   replace hD := hD.kept hb45
   replace hB := hB.trans (hb45.mono hB.size)
   replace hz3 := Nat.le_trans hz3 hb45.size
   clear hb4 hb5 hb45 hW HB
   have hbk := blk_b (ssq key ((c + (k : Nat)) % 4294967296) nonce 3)
   obtain ⟨bk, HK2⟩ : ∃ bk, Hid (blk (ssq key ((c + (k : Nat)) % 4294967296) nonce 3) = bk) := ⟨_, Hid.mk rfl⟩
   rw [HK2.out] at hbk ⊢
   have HS := Hid.mk (extract_size s (k * 64))
   have HT : Hid (∀ j, k * 64 + j < s.size → txt (s.extract (k * 64) s.size) j = txt s (k * 64 + j)) := Hid.mk (fun j hj => txt_extract s (k * 64) j hj)
   generalize s.extract (k * 64) s.size = pc at *
   obtain ⟨n, HN⟩ : ∃ n : Nat, Hid (min pc.size 64 = n) := ⟨_, Hid.mk rfl⟩
   have hmin : min (pc.size : Int) 64 = (n : Int) := by have := HN.out; omega
   have hn64 : n ≤ 64 := by have := HN.out; omega
   have hnp : n ≤ pc.size := by have := HN.out; omega
   have hpsz : pc.size ≤ 140737488355328 := by have := HS.out; omega
   go_wp2_with (first | (refine st_arr (s' := fun _ => 0) (k' := .u8) isArr64 (heap_alloc_new v5 _) (by rfl) (by rfl) ?_; intro v6 g6 o6; refine Hid.out ?_))
   have hb6 : Below v5.heap.size v5 v6 := ((Below.refl _ v5).alloc (Nat.le_refl _) _).trans (o6.below (Nat.le_refl _))
   clear o6
   refine Hid.mk ?_
   go_wp2_with fail
   rw [show bk = xo bk (txt pc) 0 from by funext i; unfold xo; rw [if_neg (by omega)]] at g6
   obtain ⟨b13, hb13⟩ : ∃ b, v5.heap.size = b := ⟨_, rfl⟩
   rw [hb13] at g6 hb6 ⊢
   generalize wr = wo at *
   generalize gk = go at *
   go_loopg [44] n (fun m i v => ∃ j : Nat, Hid (m + j = n) ∧ i = .int .i64 j ∧ ArrAt v b13 .u8 183 64 (xo bk (txt pc) j) ∧ Below b13 v5 v)
   case atStart => exact ⟨0, Hid.mk (by omega), rfl, g6, hb6⟩
   case round =>
    clear g6 hb6
    obtain ⟨j, HJ, rfl, g6, hb6⟩ := hrel
    have hjn : j ≤ n := by have := HJ.out; omega
    by_cases hjl : j < n
    ·have hj64 : j < 64 := by omega
     have hjp : j < pc.size := by omega
     go_wp2_with fail
     refine wp_region3 (Below b13 v5) wr.heap.size
      [(b13, once (WA .u8 64 (xo bk (txt pc) j)) 183 8 (WA .u8 64 (xo bk (txt pc) (j + 1))))]
      [kv (.int .i64 (j : Int)), kv (.pointer (some ⟨b13, j, none⟩)), kv (.int .u8 (xo bk (txt pc) j j)), kv (.string pc), kv (.int .i64 (j : Int)), kv (.int .u8 (txt pc j)), kv (.int .u8 (xorw (xo bk (txt pc) j j) (txt pc j))), kv (.pointer (some ⟨b13, j, none⟩)), .val fun _ => True]
      [.none, .none, .none, .none, .none, .none, .none, .none, .base 0 1]
      [some 47, some 48, some 49, some 50, some 51, some 52, some 53, some 54, none]
      [(12, .string pc), (13, .pointer (some ⟨b13, 0, none⟩)), (15, .int .i64 (j : Int))]
      [[], [.slot 0], [.slot 1, .base 0 0], [], [], [.slot 3, .slot 4], [.slot 2, .slot 5], [.slot 0], [.slot 7, .slot 6, .base 0 0]]
      [.base 0 1] [47, 48, 49, 50, 51, 52, 53, 54]
      rfl (by kernel_rfl) ⟨rfl, rfl, rfl, trivial⟩ (Below.drew hb6) (Nat.le_refl _) ⟨⟨g6.lt, obIn g6⟩, trivial⟩ ⟨trivial, trivial⟩ (below_Gc (Nat.le_of_eq hb13.symm) (hb13 ▸ hb6.size) ⟨Nat.le_refl _, trivial⟩)
      ⟨
       (fun Q aq ww own hS hBg fr kn => .inl ⟨trivial, fun K hK => wp_value (exec_move rfl fr.2.2.1) (hK _ _ ⟨Touch.refl _ _, rfl⟩)⟩),
       (fun Q aq ww own hS hBg fr kn => .inl ⟨trivial, fun K hK => wp_value (exec_idxA rfl Tryz.underlying183 len64 sizeB64 fr.2.1 kn.1 hj64) (hK _ _ ⟨Touch.refl _ _, rfl⟩)⟩),
       (fun Q aq ww own hS hBg fr kn => .inl ⟨trivial, fun K hK => wp_value (exec_ld rfl kn.1 (run_load8 (ArrAt.cell (obAt kn.2.1) j hj64))) (hK _ _ ⟨Touch.refl _ _, rfl⟩)⟩),
       (fun Q aq ww own hS hBg fr kn => .inl ⟨trivial, fun K hK => wp_value (exec_move rfl fr.1) (hK _ _ ⟨Touch.refl _ _, rfl⟩)⟩),
       (fun Q aq ww own hS hBg fr kn => .inl ⟨trivial, fun K hK => wp_value (exec_move rfl fr.2.2.1) (hK _ _ ⟨Touch.refl _ _, rfl⟩)⟩),
       (fun Q aq ww own hS hBg fr kn => .inl ⟨trivial, fun K hK => wp_value (exec_ixs rfl kn.1 kn.2.1 hjp) (hK _ _ ⟨Touch.refl _ _, rfl⟩)⟩),
       (fun Q aq ww own hS hBg fr kn => .inl ⟨trivial, fun K hK => wp_value (exec_xor8 rfl kn.1 kn.2.1 (xo_b j hbk (txt_b pc) j hj64) (txt_b pc j)) (hK _ _ ⟨Touch.refl _ _, rfl⟩)⟩),
       (fun Q aq ww own hS hBg fr kn => .inl ⟨trivial, fun K hK => wp_value (exec_idxA rfl Tryz.underlying183 len64 sizeB64 fr.2.1 kn.1 hj64) (hK _ _ ⟨Touch.refl _ _, rfl⟩)⟩),
       (fun Q aq ww own hS hBg fr kn => .inl ⟨trivial, fun K hK => act_cell8 rfl kn.1 kn.2.1 (obAt kn.2.2.1) hj64 (fun w2 hg ho => hK _ _ ⟨⟨touch_only ho, obIn (show _ = _ from by rw [← xo_step]; exact hg)⟩, trivial⟩)⟩),
       trivial⟩ ?_
     intro vs7 own7 v7 hb7 hs7 kn inj
     clear inj hs7
     have G6 : ArrAt v7 b13 .u8 183 64 (xo bk (txt pc) (j + 1)) := obAt kn.1
     clear kn
     simp only [putAll, Act.put, List.setIfInBounds_toArray, List.set_cons_zero, List.set_cons_succ]
     go_wp2_with fail
     go_roundg (n - (j + 1))
     case rel => exact ⟨j + 1, Hid.mk (by omega), by go_num, G6, hb7⟩
     case measure => have := HJ.out; omega
    ·have hj2 : j = n := by omega
     subst hj2
     clear hjl hjn HJ
     have hsl := fun w => sl64H b13 j w hn64
     go_wp2_with fail
     have hD2 := hD.kept (hb13.symm ▸ hb6)
     have g3b := g3.kept (hb13.symm ▸ hb6)
     refine (write_run b10 b10 (min (64 * k) s.size) j 64 b13 0 (strm key nonce c s) (xo bk (txt pc) j) _ hD2 (fun q hq => by rw [Nat.zero_add]; exact g6.cell q (by omega)) (by have := HS.out; omega) (by have := hb6.size; omega)).mono ?_
     rintro e v8 ⟨rfl, hD8, hb8⟩
     have hks2 : min (64 * k) s.size = 64 * k := by omega
     have hnx : min (64 * k) s.size + j = min (64 * (k + 1)) s.size := by have := HN.out; have := HS.out; omega
     replace hD8 := hD8.congr (g := strm key nonce c s) (fun i hi => by
      rw [hks2]
      unfold cat
      split
      ·rfl
      ·rename_i h
       have e1 : i / 64 = k := by omega
       have e2 : i % 64 = i - 64 * k := by omega
       have e3 : txt pc (i - 64 * k) = txt s i := by
        have := HT.out (i - 64 * k) (by have := HS.out; omega)
        rw [this]
        congr 1
        omega
       unfold xo strm ksb
       rw [if_pos (by omega), e1, e2, e3, HK2.out, xorw_comm])
     rw [hnx] at hD8
     have g8 := g3b.below hb8 hz10
     have hB8 := (hB.trans (Below.mono (hb13.symm ▸ hb6) hB.size)).trans (hb8.mono (by omega))
     have hz8 : b10 ≤ v8.heap.size := by have := hb8.size; have := hb6.size; omega
     clear hsl hD hD2 g3 g3b g6 hb6 hb8 hB hmin
     go_wp2_with fail
     go_roundg (N - (k + 1))
     case rel => exact ⟨k + 1, Hid.mk (by omega), by go_num, g8, hD8, hB8, hz8⟩
     case measure => have := HK.out; omega
  ·have hk2 : k = N := by omega
   subst hk2
   have hall : min (64 * k) s.size = s.size := by omega
   rw [hall] at hD
   go_wp2_with fail
   refine (string_run b10 b10 s.size (strm key nonce c s) _ hD (fun j _ => strm_b key nonce c s j) hz3).mono ?_
   rintro e v9 ⟨rfl, hb9⟩
   go_wp2_with fail
   go_ret
   exact ⟨rfl, hB.trans (hb9.mono (by omega))⟩
end Go.Proofs.YthghcjepdhkfdaaGreatDoor

/-
  Own text. What Stream of the document's answer gives: the same text.
-/
namespace Go.Proofs.YthghcjepdhkfdaaGreatDoor
open Go.RowKit Go.Proofs
set_option maxRecDepth 100000
end Go.Proofs.YthghcjepdhkfdaaGreatDoor

/-
  Own text. The document's answer for aead: the mark.
-/
namespace Go.Proofs.YthghcjepdhkfdaaGreatDoor
open Go.RowKit Go.Proofs
set_option maxRecDepth 100000
def onceK (key nonce : Nat → Int) : Nat → Int := over (fun _ => 0) 0 32 (blk (ssq key 0 nonce 3))
def marked (under beside : ByteArray) : ByteArray := padZ beside ++ padZ under ++ mkS 8 (digN (beside.size : Int)) ++ mkS 8 (digN (under.size : Int))
def markT (key nonce : Nat → Int) (under beside : ByteArray) : ByteArray := mkS 16 (digN (markN (onceK key nonce) (txt (marked under beside)) (marked under beside).size))
theorem onceK_b (key nonce : Nat → Int) : Byts 32 (onceK key nonce) := fun i hi => by
 unfold onceK over
 split
 ·exact blk_b _ _ (by omega)
 ·show 0 ≤ (0 : Int) ∧ (0 : Int) < 256
  omega
theorem conv_iu {n : Int} (h : 0 ≤ n ∧ n < 18446744073709551616) (w : World) : (convert 3 98 (.int .i64 n)).run Tryz.prog w = .ok (.int .u64 n) w := by
 simp [go_sem, w64 (z := n) h.1 h.2]
end Go.Proofs.YthghcjepdhkfdaaGreatDoor

/-
  Own text. What lowestFirst and filling of package aead answer.
-/
namespace Go.Proofs.YthghcjepdhkfdaaGreatDoor
open Go.RowKit Go.Proofs
set_option maxRecDepth 100000
theorem shr_at (n : Int) (i : Nat) (hi : i < 8) (w : World) : (binOp .shr 98 (.int .u64 n) (.int .i64 (8 * (i : Int)))).run Tryz.prog w = .ok (.int .u64 (n / 256 ^ i)) w := by
 match i, hi with
 | 0, _ => simp [go_sem]
 | 1, _ => simp [go_sem]
 | 2, _ => simp [go_sem]
 | 3, _ => simp [go_sem]
 | 4, _ => simp [go_sem]
 | 5, _ => simp [go_sem]
 | 6, _ => simp [go_sem]
 | 7, _ => simp [go_sem]
theorem exec_shrA {a : Act} {o : Oper} {w : World} {x y : Operand} (ho : o.op = .binOp .shr 98 x y 3) {n : Int} {i : Nat} (hx : a.eval x = .int .u64 n) (hy : a.eval y = .int .i64 (8 * (i : Int))) (hi : i < 8) : (execOp a.eval o).run Tryz.prog w = .ok (.value (.int .u64 (n / 256 ^ i))) w := exec_bin2 ho hx hy rfl (shr_at n i hi w)
set_option maxHeartbeats 4000000 in
theorem lowest_run (n : Int) (w : World) :
  Calls Tryz.prog 152 #[.int .u64 n] w fun e w' => e = .returned (.agg (WA .u8 8 (digN n))) ∧ Below w.heap.size w w' := by
 have g0 : ArrAt ((w.alloc (.cells (WA .u8 8 fun _ => 0) 177)).alloc (.cells (WA .u8 8 fun _ => 0) 177)) w.heap.size .u8 177 8 (fun _ => 0) := heap_alloc2_old w _ _
 have g1 : ArrAt ((w.alloc (.cells (WA .u8 8 fun _ => 0) 177)).alloc (.cells (WA .u8 8 fun _ => 0) 177)) (w.heap.size + 1) .u8 177 8 (fun _ => 0) := heap_alloc2_new w _ _
 have hB : Below w.heap.size w ((w.alloc (.cells (WA .u8 8 fun _ => 0) 177)).alloc (.cells (WA .u8 8 fun _ => 0) 177)) := ((Below.refl _ w).alloc (by simp) _).alloc (by simp) _
 go_enter Tryz.func152, Tryz.ntmps152
 go_wp2_with fail
 go_loopg [5] 8 (fun gm iv v => ∃ i : Nat, Hid (gm + i = 8) ∧ iv = .int .i64 (i : Int) ∧ ArrAt v w.heap.size .u8 177 8 (fun _ => 0) ∧ ArrAt v (w.heap.size + 1) .u8 177 8 (fun j => if j < i then digN n j else 0) ∧ Below w.heap.size w v)
 case atStart => exact ⟨0, Hid.mk rfl, rfl, g0, g1.congr (fun j _ => by rw [if_neg (by omega)]), hB⟩
 case round =>
  clear g0 g1 hB
  obtain ⟨i, HI, rfl, g0, g1, hB⟩ := hrel
  have hi8 : i ≤ 8 := by have := HI.out; omega
  by_cases hil : i < 8
  ·have c0 := g1.cell i hil
   have f0 := g1.free i
   have g2 := Hid.mk ((g1.set i (n / 256 ^ i % 256) hil).congr (s' := fun j => if j < i + 1 then digN n j else 0) (fun j _ => by
    unfold upd
    by_cases e : j = i
    ·subst e; rw [if_pos rfl, if_pos (by omega)]; rfl
    ·rw [if_neg e]
     show (if j < i then digN n j else 0) = _
     by_cases h : j < i
     ·rw [if_pos h, if_pos (by omega)]
     ·rw [if_neg h, if_neg (by omega)]))
   have g3 := Hid.mk (g0.only (only_set (w := wr) (g := w.heap.size + 1) (i := i) (v := .int .u8 (n / 256 ^ i % 256))) (by omega))
   go_wp2_with (refine wl_value rfl (exec_shrA rfl (by rfl) (by rfl) hil) ?_)
   generalize n / 256 ^ i = q at *
   go_wp2_with fail
   go_roundg (8 - (i + 1))
   case rel => exact ⟨i + 1, Hid.mk (by omega), by go_num, g3.out, g2.out, Below.setCell (p := ⟨w.heap.size + 1, i, none⟩) hB (by simp) _⟩
   case measure => have := HI.out; omega
  ·have hi2 : i = 8 := by omega
   subst hi2
   replace g1 := g1.congr (s' := digN n) (fun j hj => by rw [if_pos hj])
   go_wp2_with (first | (refine ld_arr isArr8 g1 (by rfl) ?_) | (refine st_arr isArr8 g0 (by rfl) (by rfl) ?_; intro v4 g4 o4; refine Hid.out ?_))
   refine Hid.mk ?_
   go_wp2_with fail
   exact bodyPost_ret (res_arr Tryz.results152 isArr8 g4 (by rfl)) rfl ⟨rfl, hB.trans (o4.below (Nat.le_refl _))⟩
def fillZ (s : ByteArray) : ByteArray := mkS ((16 - s.size % 16) % 16) (fun _ => 0)
theorem padZ_eq (s : ByteArray) : padZ s = s ++ fillZ s := rfl
theorem zeros_cut : ∀ n, n < 16 → (⟨#[0, 0, 0, 0, 0, 0, 0, 0, 0, 0, 0, 0, 0, 0, 0, 0]⟩ : ByteArray).extract n 16 = mkS (16 - n) (fun _ => 0) := by decide +kernel
set_option maxHeartbeats 4000000 in
theorem filling_run (s : ByteArray) (w : World) (hs : s.size ≤ 1152921504606846976) :
  Calls Tryz.prog 187 #[.string s] w fun e w' => e = .returned (.string (fillZ s)) ∧ Below w.heap.size w w' := by
 obtain ⟨k, hk⟩ : ∃ k, s.size % 16 = k := ⟨_, rfl⟩
 have hk16 : k < 16 := by omega
 have h1 : (s.size : Int).tmod 16 = (k : Int) := by rw [Int.tmod_eq_emod_of_nonneg (by omega)]; omega
 have h1e : (s.size : Int) % 16 = (k : Int) := by omega
 by_cases hz : k = 0
 ·have HE : Hid (fillZ s = ByteArray.empty) := Hid.mk (by unfold fillZ; rw [hk, hz]; rfl)
  subst hz
  go_enter Tryz.func187, Tryz.ntmps187
  go_wp2_with fail
  rw [HE.out]
  go_ret
  exact ⟨rfl, Below.refl _ _⟩
 ·have HE : Hid (fillZ s = mkS (16 - k) (fun _ => 0)) := Hid.mk (by unfold fillZ; rw [hk, Nat.mod_eq_of_lt (by omega)])
  have hkI : ¬ (k : Int) = 0 := by omega
  go_enter Tryz.func187, Tryz.ntmps187
  go_wp2_with (refine wl_value rfl (exec_slL (v := .string ⟨#[0, 0, 0, 0, 0, 0, 0, 0, 0, 0, 0, 0, 0, 0, 0, 0]⟩) (u := .int .i64 (k : Int)) rfl (by rfl) (by rfl) (strL _ k _ (by show k ≤ 16; omega))) ?_)
  rw [HE.out]
  go_ret
  exact ⟨congrArg (fun x => Ending.returned (.string x)) (zeros_cut k hk16), Below.refl _ _⟩
end Go.Proofs.YthghcjepdhkfdaaGreatDoor

/-
  Own text. What keyOfMark of package aead answers; parts of arrays.
-/
namespace Go.Proofs.YthghcjepdhkfdaaGreatDoor
open Go.RowKit Go.Proofs
set_option maxRecDepth 100000
theorem exec_part0 {a : Act} {o : Oper} {w : World} {x : Operand} {ty t : TypeId} {b n m : Nat} {s : Nat → Int} (ho : o.op = .load ty x) (hA : IsArr ty m) (hg : ArrAt w b .u8 t n s) (hf : m ≤ n) (hx : a.eval x = .pointer (some ⟨b, 0, none⟩)) : (execOp a.eval o).run Tryz.prog w = .ok (.value (.agg (WA .u8 m s))) w :=
 exec_ldmid ho hA hx (fun j v hv => by
  obtain ⟨hj, rfl⟩ := nums_get hv
  rw [Nat.zero_add]
  exact hg.cell j (by omega))
theorem exec_toarr {a : Act} {o : Oper} {w : World} {x : Operand} {t : TypeId} (ho : o.op = .sliceToArrayPointer t x) {v r : Value} (hx : a.eval x = v) (hr : (Instr.arrayAt t v).run Tryz.prog w = .ok r w) : (execOp a.eval o).run Tryz.prog w = .ok (.value r) w := by
 unfold execOp
 simp [ho, hx, hr]
theorem toarr32 (b f cap : Nat) (w : World) : (Instr.arrayAt 22 (.slice (some ⟨b, f, none⟩) 32 cap)).run Tryz.prog w = .ok (.pointer (some ⟨b, f, none⟩)) w := by simp [go_sem, Instr.arrayAt]
set_option maxHeartbeats 4000000 in
theorem keyOfMark_run (key nonce : Nat → Int) (w : World) (hk : Byts 32 key) (hn : Byts 12 nonce) :
  Calls Tryz.prog 189 #[.agg (WA .u8 32 key), .agg (WA .u8 12 nonce)] w fun e w' => e = .returned (.agg (WA .u8 32 (onceK key nonce))) ∧ Below w.heap.size w w' := by
 have g0 : ArrAt (((w.alloc (.cells (WA .u8 32 key) 22)).alloc (.cells (WA .u8 12 nonce) 26)).alloc (.cells (WA .u8 32 fun _ => 0) 22)) w.heap.size .u8 22 32 key := heap_a31 w _ _ _
 have g1 : ArrAt (((w.alloc (.cells (WA .u8 32 key) 22)).alloc (.cells (WA .u8 12 nonce) 26)).alloc (.cells (WA .u8 32 fun _ => 0) 22)) (w.heap.size + 1) .u8 26 12 nonce := heap_a32 w _ _ _
 have g2 : ArrAt (((w.alloc (.cells (WA .u8 32 key) 22)).alloc (.cells (WA .u8 12 nonce) 26)).alloc (.cells (WA .u8 32 fun _ => 0) 22)) (w.heap.size + 1 + 1) .u8 22 32 (fun _ => 0) := heap_a3 w _ _ _
 have hB : Below w.heap.size w (((w.alloc (.cells (WA .u8 32 key) 22)).alloc (.cells (WA .u8 12 nonce) 26)).alloc (.cells (WA .u8 32 fun _ => 0) 22)) := (((Below.refl _ w).alloc (by simp) _).alloc (by simp) _).alloc (by simp; omega) _
 go_enter Tryz.func189, Tryz.ntmps189
 go_wp2_with (first | (refine ld_arr isArr32 g0 (by rfl) ?_) | (refine ld_arr isArr12 g1 (by rfl) ?_))
 refine (Block_run key nonce 0 _ hk hn (by unfold W32; omega)).mono ?_
 rintro e v2 ⟨rfl, hb2⟩
 replace hB := hB.trans (hb2.mono hB.size)
 have hz : w.heap.size + 1 + 1 < v2.heap.size := (g2.kept hb2).lt
 replace g2 := (g2.kept hb2)
 clear hb2 g0 g1
 have gn := fun o (ho : o = Obj.cells (WA .u8 64 fun _ => 0) 183 (0, 0)) => (by rw [ho]; exact heap_alloc_new v2 _ : ArrAt (v2.alloc o) v2.heap.size .u8 183 64 (fun _ => 0))
 have hBS := hB.size
 go_wp2_with (refine st_arr isArr64 (gn _ rfl) (by rfl) (by rfl) ?_; intro v3 gb o3; refine Hid.out ?_)
 replace hB := (hB.alloc hBS _).trans (o3.below hBS)
 replace g2 := (g2.alloc _).only o3 (by omega)
 clear o3 gn
 refine Hid.mk ?_
 go_wp2_with (first | (refine wl_value rfl (exec_toarr rfl (by rfl) (toarr32 _ 0 64 _)) ?_) | (refine wl_value rfl (exec_part0 rfl isArr32 gb (by omega) (by rfl)) ?_) | (refine st_arr isArr32 g2 (by rfl) (by rfl) ?_; intro v4 g4 o4; refine Hid.out ?_))
 refine Hid.mk ?_
 go_wp2_with fail
 have hE : WA .u8 32 (blk (ssq key 0 nonce 3)) = WA .u8 32 (onceK key nonce) := WA_congr (fun j hj => by
  unfold onceK over
  rw [if_pos (by omega), Nat.sub_zero])
 exact bodyPost_ret (res_arr Tryz.results189 isArr32 g4 (by rfl)) rfl ⟨by rw [hE], hB.trans (o4.below (by omega))⟩
end Go.Proofs.YthghcjepdhkfdaaGreatDoor

/-
  Own text. Slices of texts that grow; steps over them.
-/
namespace Go.Proofs.YthghcjepdhkfdaaGreatDoor
open Go.RowKit Go.Proofs
set_option maxRecDepth 100000

end Go.Proofs.YthghcjepdhkfdaaGreatDoor

/-
  Own text. What markOf of package aead answers.
-/
namespace Go.Proofs.YthghcjepdhkfdaaGreatDoor
open Go.RowKit Go.Proofs
set_option maxRecDepth 100000
def pc6 (ps : Nat → ByteArray) (j : Nat) : ByteArray := if j < 4 then (if j % 2 = 0 then ps (j / 2) else fillZ (ps (j / 2))) else mkS 8 (digN ((ps (j - 4)).size : Int))
theorem join6 (under beside : ByteArray) : joinB (pc6 (two2 beside under)) 6 = marked under beside := by
 simp [joinB, pc6, two2, marked, padZ_eq, ByteArray.append_assoc]
theorem pc6_even (ps : Nat → ByteArray) (i : Nat) (hi : i < 2) : ∀ j, j < 2 → two2 (ps i) (fillZ (ps i)) j = pc6 ps (2 * i + j) := fun j hj => by
 unfold pc6
 rw [if_pos (by omega)]
 match j, hj with
 | 0, _ => rw [if_pos (by omega), show (2 * i + 0) / 2 = i by omega]; rfl
 | 1, _ => rw [if_neg (by omega), show (2 * i + 1) / 2 = i by omega]; rfl
theorem pc6_len (ps : Nat → ByteArray) (i : Nat) : ∀ j, j < 1 → one1 (mkS 8 (digN ((ps i).size : Int))) j = pc6 ps (4 + i + j) := fun j hj => by
 obtain rfl : j = 0 := by omega
 unfold pc6
 rw [if_neg (by omega), show 4 + i + 0 - 4 = i by omega]
 rfl
set_option maxHeartbeats 8000000 in
theorem markOf_run (key nonce : Nat → Int) (pv : Value) (ps : Nat → ByteArray) (w : World) (hk : Byts 32 key) (hn : Byts 12 nonce) (hv : Strs w pv 2 ps) (hps : ∀ j, j < 2 → (ps j).size ≤ 1152921504606846976) :
  Calls Tryz.prog 150 #[.agg (WA .u8 32 key), .agg (WA .u8 12 nonce), pv] w fun e w' => e = .returned (.agg (WA .u8 16 (digN (markN (onceK key nonce) (txt (joinB (pc6 ps) 6)) (joinB (pc6 ps) 6).size)))) ∧ Below w.heap.size w w' := by
 have g0 : ArrAt (((w.alloc (.cells (WA .u8 32 key) 22)).alloc (.cells (WA .u8 12 nonce) 26)).alloc (.cells (WA .u8 16 fun _ => 0) 54)) w.heap.size .u8 22 32 key := heap_a31 w _ _ _
 have g1 : ArrAt (((w.alloc (.cells (WA .u8 32 key) 22)).alloc (.cells (WA .u8 12 nonce) 26)).alloc (.cells (WA .u8 16 fun _ => 0) 54)) (w.heap.size + 1) .u8 26 12 nonce := heap_a32 w _ _ _
 have g2 : ArrAt (((w.alloc (.cells (WA .u8 32 key) 22)).alloc (.cells (WA .u8 12 nonce) 26)).alloc (.cells (WA .u8 16 fun _ => 0) 54)) (w.heap.size + 1 + 1) .u8 54 16 (fun _ => 0) := heap_a3 w _ _ _
 have hB : Below w.heap.size w (((w.alloc (.cells (WA .u8 32 key) 22)).alloc (.cells (WA .u8 12 nonce) 26)).alloc (.cells (WA .u8 16 fun _ => 0) 54)) := (((Below.refl _ w).alloc (by simp) _).alloc (by simp) _).alloc (by simp; omega) _
 have hv0 := hv.below hB
 obtain ⟨pa, pcp, rfl, _⟩ := hv
 go_enter Tryz.func150, Tryz.ntmps150
 go_wp2_with fail
 obtain ⟨u, hu⟩ : ∃ u, u = (((w.alloc (.cells (WA .u8 32 key) 22)).alloc (.cells (WA .u8 12 nonce) 26)).alloc (.cells (WA .u8 16 fun _ => 0) 54)) := ⟨_, rfl⟩
 rw [← hu] at g0 g1 g2 hB hv0
 go_loopg [7, 15] 2 (fun gm sv iv v => ∃ i : Nat, Hid (gm + i = 2) ∧ iv = .int .i64 (i : Int) ∧ v.ownsRow u.heap.size 9 1 sv (2 * i) (strW (2 * i) (pc6 ps)) ∧ Below u.heap.size u v)
 case atStart => exact ⟨0, Hid.mk rfl, rfl, World.ownsRow_nil _ _ _ _, by rw [hu]; exact Below.refl _ _⟩
 case round =>
  clear hu
  obtain ⟨i, HI, rfl, hO, hb⟩ := hrel
  have hin : i ≤ 2 := by have := HI.out; omega
  by_cases hil : i < 2
  ·obtain ⟨a', c', e, hp⟩ := hv0.below hb
   simp only [Value.slice.injEq] at e
   obtain ⟨rfl, _, rfl⟩ := e
   obtain ⟨p, rfl, hc⟩ := hp (by omega)
   have hc1 := hc i hil
   clear hc hp
   go_wp2_with fail
   refine (filling_run (ps i) _ (hps i hil)).mono ?_
   rintro e v1 ⟨rfl, hb1⟩
   replace hO := own_kept hO hb1
   replace hb := hb.trans (hb1.mono hb.size)
   clear hb1 hc1
   go_wp2_with (refine wl_bs2 (by rfl) (by rfl) ?_; intro v2 s2 hb2 hz2; refine Hid.out ?_)
   replace hO := own_kept hO hb2
   replace hb := hb.trans (hb2.mono hb.size)
   clear hb2 hz2
   have HBS := Hid.mk hb.size
   refine Hid.mk ?_
   go_wp2_with (refine ap_strs (by rfl) (by rfl) hO s2 (by omega) HBS.out ?_; intro v' v3 hO3 hb3; refine Hid.out ?_)
   rw [strW_app (pc6_even ps i hil)] at hO3
   replace hb := hb.trans hb3
   clear hO hb3 s2
   refine Hid.mk ?_
   go_wp2_with fail
   go_roundg (2 - (i + 1))
   case rel => exact ⟨i + 1, Hid.mk (by omega), by go_num, hO3, hb⟩
   case measure => have := HI.out; omega
  ·have hi2 : i = 2 := by omega
   subst hi2
   go_wp2_with fail
   go_loopg [7, 28] 2 (fun gm sv iv v => ∃ i : Nat, Hid (gm + i = 2) ∧ iv = .int .i64 (i : Int) ∧ v.ownsRow u.heap.size 9 1 sv (4 + i) (strW (4 + i) (pc6 ps)) ∧ Below u.heap.size u v)
   case atStart => exact ⟨0, Hid.mk rfl, rfl, hO, hb⟩
   case round =>
    clear hO hb HI hil hin
    obtain ⟨i, HI, rfl, hO, hb⟩ := hrel
    have hin : i ≤ 2 := by have := HI.out; omega
    by_cases hil : i < 2
    ·obtain ⟨a', c', e, hp⟩ := hv0.below hb
     simp only [Value.slice.injEq] at e
     obtain ⟨rfl, _, rfl⟩ := e
     obtain ⟨p, rfl, hc⟩ := hp (by omega)
     have hc1 := hc i hil
     have hsz : 0 ≤ ((ps i).size : Int) ∧ ((ps i).size : Int) < 18446744073709551616 := by have := hps i hil; omega
     clear hc hp
     go_wp2_with (refine wl_value rfl (exec_conv rfl (by rfl) (conv_iu hsz _)) ?_)
     refine (lowest_run _ _).mono ?_
     rintro e v1 ⟨rfl, hb1⟩
     replace hO := own_kept hO hb1
     replace hb := hb.trans (hb1.mono hb.size)
     clear hb1 hc1
     have gn := fun o (ho : o = Obj.cells (WA .u8 8 fun _ => 0) 177 (0, 0)) => (by rw [ho]; exact heap_alloc_new v1 _ : ArrAt (v1.alloc o) v1.heap.size .u8 177 8 (fun _ => 0))
     have HBS := Hid.mk hb.size
     go_wp2_with (refine st_arr isArr8 (gn _ rfl) (by rfl) (by rfl) ?_; intro v2 gb o2; refine Hid.out ?_)
     have hb2 : Below v1.heap.size v1 v2 := ((Below.refl _ v1).alloc (Nat.le_refl _) _).trans (o2.below (Nat.le_refl _))
     replace hO := own_kept hO hb2
     replace hb := hb.trans (hb2.mono hb.size)
     clear hb2 o2 gn HBS
     have hcv := str_back 8 v1.heap.size 8 v2 8 (digN ((ps i).size : Int)) gb.row (fun j _ => digN_b _ j) rfl
     refine Hid.mk ?_
     go_wp2_with (refine wl_bs1 (by rfl) ?_; intro v3 s3 hb3 hz3; refine Hid.out ?_)
     replace hO := own_kept hO hb3
     replace hb := hb.trans (hb3.mono hb.size)
     clear hb3 hz3 hcv gb
     have HBS := Hid.mk hb.size
     refine Hid.mk ?_
     go_wp2_with (refine ap_strs (by rfl) (by rfl) hO s3 (by omega) HBS.out ?_; intro v' v4 hO4 hb4; refine Hid.out ?_)
     rw [strW_app (pc6_len ps i)] at hO4
     replace hb := hb.trans hb4
     clear hO hb4 s3
     refine Hid.mk ?_
     go_wp2_with fail
     go_roundg (2 - (i + 1))
     case rel => exact ⟨i + 1, Hid.mk (by omega), by go_num, hO4, hb⟩
     case measure => have := HI.out; omega
    ·have hi2 : i = 2 := by omega
     subst hi2
     have gk := g0.kept hb
     have gq := g1.kept hb
     have gr := g2.kept hb
     have hSt := own_Strs hO (by omega)
     replace hB := hB.trans (hb.mono hB.size)
     clear hb hO g0 g1 g2
     go_wp2_with (first | (refine ld_arr isArr32 gk (by rfl) ?_) | (refine ld_arr isArr12 gq (by rfl) ?_))
     refine (keyOfMark_run key nonce _ hk hn).mono ?_
     rintro e v5 ⟨rfl, hb5⟩
     replace gr := gr.kept hb5
     replace hB := hB.trans (hb5.mono hB.size)
     replace hSt := hSt.below hb5
     clear hb5 gk gq
     go_wp2_with fail
     refine (Tag_run (onceK key nonce) _ 6 (pc6 ps) _ (onceK_b key nonce) hSt (by decide)).mono ?_
     rintro e v6 ⟨rfl, hb6⟩
     replace gr := gr.kept hb6
     replace hB := hB.trans (hb6.mono hB.size)
     clear hb6 hSt
     go_wp2_with (refine st_arr isArr16 gr (by rfl) (by rfl) ?_; intro v7 g7 o7; refine Hid.out ?_)
     refine Hid.mk ?_
     go_wp2_with fail
     exact bodyPost_ret (res_arr Tryz.results150 isArr16 g7 (by rfl)) rfl ⟨rfl, hB.trans (o7.below (by omega))⟩
end Go.Proofs.YthghcjepdhkfdaaGreatDoor

/-
  Own text. The document's answer for aead: Seal.
-/
namespace Go.Proofs.YthghcjepdhkfdaaGreatDoor
open Go.RowKit Go.Proofs
set_option maxRecDepth 100000
def underT (key nonce : Nat → Int) (text : ByteArray) : ByteArray := mkS text.size (strm key nonce 1 text)
def boxT (key nonce : Nat → Int) (text beside : ByteArray) : ByteArray := underT key nonce text ++ markT key nonce (underT key nonce text) beside
theorem underT_size (key nonce : Nat → Int) (text : ByteArray) : (underT key nonce text).size = text.size := mkS_size _ _
theorem markT_size (key nonce : Nat → Int) (under beside : ByteArray) : (markT key nonce under beside).size = 16 := mkS_size _ _
theorem boxT_size (key nonce : Nat → Int) (text beside : ByteArray) : (boxT key nonce text beside).size = text.size + 16 := by
 unfold boxT
 rw [ByteArray.size_append, underT_size, markT_size]
end Go.Proofs.YthghcjepdhkfdaaGreatDoor

/-
  Own text. The document's answer for aead: Open.
-/
namespace Go.Proofs.YthghcjepdhkfdaaGreatDoor
open Go.RowKit Go.Proofs
set_option maxRecDepth 100000
def openT (key nonce : Nat → Int) (box beside : ByteArray) : ByteArray × Int :=
 if 16 ≤ box.size ∧ box.extract (box.size - 16) box.size = markT key nonce (box.extract 0 (box.size - 16)) beside then (underT key nonce (box.extract 0 (box.size - 16)), 0) else (ByteArray.empty, 13)
end Go.Proofs.YthghcjepdhkfdaaGreatDoor

/-
  Own text. What Same of package aead answers.
-/
namespace Go.Proofs.YthghcjepdhkfdaaGreatDoor
open Go.RowKit Go.Proofs
set_option maxRecDepth 100000
theorem differ_next (d : Int) (x y : UInt8) (hd : 0 ≤ d ∧ d < 256) : ∃ e : Int, bits .or .u8 d (bits .xor .u8 (x.toNat : Int) (y.toNat : Int)) = e ∧ (0 ≤ e ∧ e < 256) ∧ (e = 0 ↔ d = 0 ∧ x = y) := by
 refine ⟨_, rfl, ?_⟩
 have hx : x.toNat < 256 := x.toNat_lt
 have hy : y.toNat < 256 := y.toNat_lt
 have h1 := Nat.xor_lt_two_pow (x := x.toNat) (y := y.toNat) (n := 8) hx hy
 have h2 := Nat.or_lt_two_pow (x := d.toNat) (y := x.toNat ^^^ y.toNat) (n := 8) (by omega) h1
 rw [u8_xor_nat _ _ hx hy, u8_or _ _ hd.1 hd.2 (by omega) (by omega), Int.toNat_natCast]
 refine ⟨⟨by omega, by omega⟩, ?_⟩
 have h3 : ((d.toNat ||| (x.toNat ^^^ y.toNat) : Nat) : Int) = 0 ↔ d.toNat = 0 ∧ x.toNat = y.toNat := by
  rw [Int.natCast_eq_zero, Nat.or_eq_zero_iff, xor_zero]
 rw [h3, UInt8.toNat_inj]
 exact ⟨fun h => ⟨by omega, h.2⟩, fun h => ⟨by omega, h.2⟩⟩
set_option maxHeartbeats 4000000 in
theorem Same_run (a b : ByteArray) (w : World) (ha : a.size ≤ 1152921504606846976) :
  Calls Tryz.prog 63 #[.string a, .string b] w fun e w' => e = .returned (.bool (decide (a = b))) ∧ Below w.heap.size w w' := by
 by_cases hl : a.size = b.size
 ·have hlI : (a.size : Int) = (b.size : Int) := by omega
  have hB := Below.refl w.heap.size w
  go_enter Tryz.func63, Tryz.ntmps63
  go_wp2_with fail
  go_loopg [5, 14] a.size (fun gm dv iv v => ∃ (i : Nat) (d : Int), Hid (gm + i = a.size) ∧ iv = .int .i64 (i : Int) ∧ dv = .int .u8 d ∧ (0 ≤ d ∧ d < 256) ∧ Hid (d = 0 ↔ ∀ j, j < i → txt a j = txt b j) ∧ Below w.heap.size w v)
  case atStart => exact ⟨0, 0, Hid.mk rfl, rfl, rfl, by omega, Hid.mk ⟨fun _ j hj => by omega, fun _ => rfl⟩, hB⟩
  case round =>
   clear hB
   obtain ⟨i, d, HI, rfl, rfl, hd, HD, hB⟩ := hrel
   have hi8 : i ≤ a.size := by have := HI.out; omega
   by_cases hil : i < a.size
   ·have hib : i < b.size := by omega
    obtain ⟨e, he, he2, he3⟩ := differ_next d a[i] b[i] hd
    have HE : Hid (e = 0 ↔ ∀ j, j < i + 1 → txt a j = txt b j) := Hid.mk (by
     have t1 : (a[i] = b[i]) ↔ txt a i = txt b i := by
      rw [← txt_get hil, ← txt_get hib]
      constructor
      ·intro h; rw [h]
      ·intro h; exact UInt8.toNat_inj.1 (by omega)
     rw [he3, HD.out, t1]
     constructor
     ·rintro ⟨h1, h2⟩ j hj
      by_cases e : j = i
      ·rw [e]; exact h2
      ·exact h1 j (by omega)
     ·intro h
      exact ⟨fun j hj => h j (by omega), h i (by omega)⟩)
    clear he3 HD
    go_wp2_with fail
    go_region
    clear he
    replace hB := hB.drew
    generalize wr.drew = wr2 at *
    go_wp2_with fail
    go_roundg (a.size - (i + 1))
    case rel => exact ⟨i + 1, e, Hid.mk (by omega), by go_num, rfl, he2, HE, hB⟩
    case measure => have := HI.out; omega
   ·have hi2 : i = a.size := by omega
    subst hi2
    have hE : (d == 0) = decide (a = b) := by
     show decide (d = 0) = _
     refine decide_eq_decide.2 (HD.out.trans ⟨fun h => same_ext hl h, fun h => ?_⟩)
     rw [h]
     exact fun _ _ => rfl
    clear HD
    go_wp2_with fail
    go_ret
    exact ⟨by rw [← hE]; rfl, hB⟩
 ·have hlI : ¬ (a.size : Int) = (b.size : Int) := by omega
  have hE : decide (a = b) = false := decide_eq_false (fun h => hl (by rw [h]))
  have HE := Hid.mk hE
  clear hE hl
  go_enter Tryz.func63, Tryz.ntmps63
  go_wp2_with fail
  go_ret
  exact ⟨by rw [HE.out]; rfl, Below.refl _ _⟩
end Go.Proofs.YthghcjepdhkfdaaGreatDoor

/-
  Own text. What Seal of package aead answers.
-/
namespace Go.Proofs.YthghcjepdhkfdaaGreatDoor
open Go.RowKit Go.Proofs
set_option maxRecDepth 100000
theorem mark2 (key nonce : Nat → Int) (under beside : ByteArray) (pv : Value) (w : World) (hk : Byts 32 key) (hn : Byts 12 nonce) (hv : Strs w pv 2 (two2 beside under)) (hu : under.size ≤ 1152921504606846976) (hb : beside.size ≤ 1152921504606846976) :
  Calls Tryz.prog 150 #[.agg (WA .u8 32 key), .agg (WA .u8 12 nonce), pv] w fun e w' => e = .returned (.agg (WA .u8 16 (digN (markN (onceK key nonce) (txt (marked under beside)) (marked under beside).size)))) ∧ Below w.heap.size w w' := by
 have h := markOf_run key nonce pv (two2 beside under) w hk hn hv (fun j hj => by
  match j, hj with
  | 0, _ => exact hb
  | 1, _ => exact hu)
 rw [join6] at h
 exact h
set_option maxHeartbeats 4000000 in
theorem Seal_run (key nonce : Nat → Int) (text beside : ByteArray) (w : World) (hk : Byts 32 key) (hn : Byts 12 nonce) (ht : text.size ≤ 140737488355328) (hbs : beside.size ≤ 281474976710656) :
  Calls Tryz.prog 120 #[.agg (WA .u8 32 key), .agg (WA .u8 12 nonce), .string text, .string beside] w fun e w' => e = .returned (.string (boxT key nonce text beside)) ∧ Below w.heap.size w w' := by
 have g0 : ArrAt ((w.alloc (.cells (WA .u8 32 key) 22)).alloc (.cells (WA .u8 12 nonce) 26)) w.heap.size .u8 22 32 key := heap_alloc2_old w _ _
 have g1 : ArrAt ((w.alloc (.cells (WA .u8 32 key) 22)).alloc (.cells (WA .u8 12 nonce) 26)) (w.heap.size + 1) .u8 26 12 nonce := heap_alloc2_new w _ _
 have hB : Below w.heap.size w ((w.alloc (.cells (WA .u8 32 key) 22)).alloc (.cells (WA .u8 12 nonce) 26)) := ((Below.refl _ w).alloc (by simp) _).alloc (by simp) _
 have hS := fun w => Stream_run key nonce 1 text w hk hn (by unfold W32; omega) ht
 have hM := fun pv w hv => mark2 key nonce (underT key nonce text) beside pv w hk hn hv (by rw [underT_size]; omega) (by omega)
 have HE : Hid (underT key nonce text ++ markT key nonce (underT key nonce text) beside = boxT key nonce text beside) := Hid.mk rfl
 have hL1 : (underT key nonce text).size + (markT key nonce (underT key nonce text) beside).size ≤ 9223372036854775807 := by rw [underT_size, markT_size]; omega
 change ∀ w, Calls _ _ _ w fun e w' => e = .returned (.string (underT key nonce text)) ∧ Below w.heap.size w w' at hS
 unfold markT at HE hL1
 have hmb := digN_b (markN (onceK key nonce) (txt (marked (underT key nonce text) beside)) (marked (underT key nonce text) beside).size)
 generalize digN (markN (onceK key nonce) (txt (marked (underT key nonce text) beside)) (marked (underT key nonce text) beside).size) = m at *
 generalize underT key nonce text = u at *
 clear ht
 go_enter Tryz.func120, Tryz.ntmps120
 go_wp2_with (first | (refine ld_arr isArr32 g0 (by rfl) ?_) | (refine ld_arr isArr12 g1 (by rfl) ?_))
 refine (hS _).mono ?_
 rintro e v1 ⟨rfl, hb⟩
 replace g0 := g0.kept hb
 replace g1 := g1.kept hb
 replace hB := hB.trans (hb.mono hB.size)
 clear hb hS
 go_wp2_with (first | (refine ld_arr isArr32 g0 (by rfl) ?_) | (refine ld_arr isArr12 g1 (by rfl) ?_) | (refine wl_bs2 (by rfl) (by rfl) ?_; intro v2 s2 hb2 hz2; refine Hid.out ?_))
 replace hB := hB.trans (hb2.mono hB.size)
 clear hb2 hz2 g0 g1
 refine Hid.mk ?_
 go_wp2_with fail
 refine (hM _ _ s2).mono ?_
 rintro e v3 ⟨rfl, hb3⟩
 replace hB := hB.trans (hb3.mono hB.size)
 clear hb3 s2 hM
 have gn := fun o (ho : o = Obj.cells (WA .u8 16 fun _ => 0) 54 (0, 0)) => (by rw [ho]; exact heap_alloc_new v3 _ : ArrAt (v3.alloc o) v3.heap.size .u8 54 16 (fun _ => 0))
 have HBS := Hid.mk hB.size
 go_wp2_with (refine st_arr isArr16 (gn _ rfl) (by rfl) (by rfl) ?_; intro v4 g4 o4; refine Hid.out ?_)
 replace hB := (hB.alloc HBS.out _).trans (o4.below HBS.out)
 clear o4 gn HBS
 have hcv := str_back 16 v3.heap.size 16 v4 16 m g4.row (fun j _ => hmb j) rfl
 refine Hid.mk ?_
 go_wp2_with (refine wl_value rfl (exec_catS rfl (by rfl) (by rfl) hL1) ?_)
 rw [HE.out]
 go_ret
 exact ⟨rfl, hB⟩
end Go.Proofs.YthghcjepdhkfdaaGreatDoor

/-
  Own text. What Open of package aead answers.
-/
namespace Go.Proofs.YthghcjepdhkfdaaGreatDoor
open Go.RowKit Go.Proofs
set_option maxRecDepth 100000
theorem exec_sub16 {a : Act} {o : Oper} {w : World} {x : Operand} (ho : o.op = .binOp .sub 3 x (.const (.int .i64 16)) 3) {m n : Int} (hx : a.eval x = .int .i64 m) (h : m - 16 = n ∧ -9223372036854775808 ≤ n ∧ n < 9223372036854775808) : (execOp a.eval o).run Tryz.prog w = .ok (.value (.int .i64 n)) w :=
 exec_bin ho rfl hx rfl (by simp [go_sem, h.1, i64_wrap h.2.1 h.2.2])
set_option maxHeartbeats 8000000 in
theorem Open_run (key nonce : Nat → Int) (box beside : ByteArray) (w : World) (hk : Byts 32 key) (hn : Byts 12 nonce) (ht : box.size ≤ 140737488355328) (hbs : beside.size ≤ 281474976710656) :
  Calls Tryz.prog 132 #[.agg (WA .u8 32 key), .agg (WA .u8 12 nonce), .string box, .string beside] w fun e w' => e = .returned (.tuple #[.string (openT key nonce box beside).1, .int .i64 (openT key nonce box beside).2]) ∧ Below w.heap.size w w' := by
 have g0 : ArrAt ((w.alloc (.cells (WA .u8 32 key) 22)).alloc (.cells (WA .u8 12 nonce) 26)) w.heap.size .u8 22 32 key := heap_alloc2_old w _ _
 have g1 : ArrAt ((w.alloc (.cells (WA .u8 32 key) 22)).alloc (.cells (WA .u8 12 nonce) 26)) (w.heap.size + 1) .u8 26 12 nonce := heap_alloc2_new w _ _
 have hB : Below w.heap.size w ((w.alloc (.cells (WA .u8 32 key) 22)).alloc (.cells (WA .u8 12 nonce) 26)) := ((Below.refl _ w).alloc (by simp) _).alloc (by simp) _
 by_cases h16 : 16 ≤ box.size
 ·obtain ⟨n, hnn⟩ : ∃ n, box.size = n + 16 := ⟨box.size - 16, by omega⟩
  have HNI : Hid ((box.size : Int) - 16 = (n : Int) ∧ -9223372036854775808 ≤ (n : Int) ∧ (n : Int) < 9223372036854775808) := Hid.mk (by omega)
  have HNB : Hid (n ≤ box.size) := Hid.mk (by omega)
  have hU := take_size box n (by omega)
  have hsub : box.size - 16 = n := by omega
  have HO : Hid (openT key nonce box beside = if (box.extract n box.size) = markT key nonce (box.extract 0 n) beside then (underT key nonce (box.extract 0 n), 0) else (ByteArray.empty, 13)) := Hid.mk (by
   unfold openT
   rw [hsub]
   by_cases e : (box.extract n box.size) = markT key nonce (box.extract 0 n) beside
   ·rw [if_pos ⟨h16, e⟩, if_pos e]
   ·rw [if_neg (fun h => e h.2), if_neg e])
  have hlI : ¬ (box.size : Int) < 16 := by omega
  have hM := fun pv w hv => mark2 key nonce (box.extract 0 n) beside pv w hk hn hv (by omega) (by omega)
  have hST : ∀ ww : World, Calls Tryz.prog 149 #[.agg (WA .u8 32 key), .int .u32 1, .agg (WA .u8 12 nonce), .string (box.extract 0 n)] ww fun e w' => e = .returned (.string (underT key nonce (box.extract 0 n))) ∧ Below ww.heap.size ww w' := fun ww => Stream_run key nonce 1 _ ww hk hn (by unfold W32; omega) (by omega)
  clear hU hsub hnn
  go_enter Tryz.func132, Tryz.ntmps132
  go_wp2_with fail
  refine wp_gen (fun v => ArrAt v w.heap.size .u8 22 32 key ∧ ArrAt v (w.heap.size + 1) .u8 26 12 nonce ∧ Below w.heap.size w v) ⟨g0, g1, hB⟩ ?_
  clear g0 g1 hB
  rintro v0 ⟨g0, g1, hB⟩
  refine wp_region3 (Below v0.heap.size v0) v0.heap.size
   ([] : List (Nat × Cont))
   [kv (.string box), kv (.string box), kv (.int .i64 (box.size : Int)), kv (.int .i64 (n : Int)), kv (.string (box.extract 0 n)), kv (.string box), kv (.string box), kv (.int .i64 (box.size : Int)), kv (.int .i64 (n : Int)), kv (.string (box.extract n box.size)), kv (.string (box.extract 0 n)), kv (.string (box.extract n box.size))]
   [.none, .none, .none, .none, .none, .none, .none, .none, .none, .none, .none, .none]
   [some 16, some 17, some 18, some 19, some 20, some 21, some 22, some 23, some 24, some 25, some 10, some 11]
   [(2, .string box)]
   [[], [], [.slot 1], [.slot 2], [.slot 0, .slot 3], [], [], [.slot 6], [.slot 7], [.slot 5, .slot 8], [.slot 4], [.slot 9]]
   [.slot 10, .slot 11] [16, 17, 18, 19, 20, 21, 22, 23, 24, 25, 10, 11]
   rfl (by kernel_rfl) ⟨rfl, trivial⟩ (Below.refl _ v0).drew (Nat.le_refl _) trivial trivial (below_G (Nat.le_refl _) trivial)
   ⟨
    (fun Q aq ww own hS hBg fr kn => .inl ⟨trivial, fun K hK => wp_value (exec_move rfl fr.1) (hK _ _ ⟨Touch.refl _ _, rfl⟩)⟩),
    (fun Q aq ww own hS hBg fr kn => .inl ⟨trivial, fun K hK => wp_value (exec_move rfl fr.1) (hK _ _ ⟨Touch.refl _ _, rfl⟩)⟩),
    (fun Q aq ww own hS hBg fr kn => .inl ⟨trivial, fun K hK => wp_value (exec_lenS rfl kn.1) (hK _ _ ⟨Touch.refl _ _, rfl⟩)⟩),
    (fun Q aq ww own hS hBg fr kn => .inl ⟨trivial, fun K hK => wp_value (exec_sub16 rfl kn.1 HNI.out) (hK _ _ ⟨Touch.refl _ _, rfl⟩)⟩),
    (fun Q aq ww own hS hBg fr kn => .inl ⟨trivial, fun K hK => wp_value (exec_slH rfl kn.1 kn.2.1 (strH box n ww HNB.out)) (hK _ _ ⟨Touch.refl _ _, rfl⟩)⟩),
    (fun Q aq ww own hS hBg fr kn => .inl ⟨trivial, fun K hK => wp_value (exec_move rfl fr.1) (hK _ _ ⟨Touch.refl _ _, rfl⟩)⟩),
    (fun Q aq ww own hS hBg fr kn => .inl ⟨trivial, fun K hK => wp_value (exec_move rfl fr.1) (hK _ _ ⟨Touch.refl _ _, rfl⟩)⟩),
    (fun Q aq ww own hS hBg fr kn => .inl ⟨trivial, fun K hK => wp_value (exec_lenS rfl kn.1) (hK _ _ ⟨Touch.refl _ _, rfl⟩)⟩),
    (fun Q aq ww own hS hBg fr kn => .inl ⟨trivial, fun K hK => wp_value (exec_sub16 rfl kn.1 HNI.out) (hK _ _ ⟨Touch.refl _ _, rfl⟩)⟩),
    (fun Q aq ww own hS hBg fr kn => .inl ⟨trivial, fun K hK => wp_value (exec_slL rfl kn.1 kn.2.1 (strL box n ww HNB.out)) (hK _ _ ⟨Touch.refl _ _, rfl⟩)⟩),
    (fun Q aq ww own hS hBg fr kn => .inl ⟨trivial, fun K hK => wp_value (exec_assign rfl kn.1) (hK _ _ ⟨Touch.refl _ _, rfl⟩)⟩),
    (fun Q aq ww own hS hBg fr kn => .inl ⟨trivial, fun K hK => wp_value (exec_assign rfl kn.1) (hK _ _ ⟨Touch.refl _ _, rfl⟩)⟩),
    trivial⟩ ?_
  intro vs own v5 hB5 hs5 kn inj
  clear inj hs5
  replace g0 := g0.kept hB5
  replace g1 := g1.kept hB5
  replace hB := hB.trans (hB5.mono hB.size)
  have e10 : vs 10 = .string (box.extract 0 n) := kn.1
  have e11 : vs 11 = .string (box.extract n box.size) := kn.2.1
  clear kn hB5
  simp only [putAll, Act.put, List.setIfInBounds_toArray, List.set_cons_zero, List.set_cons_succ, e10, e11]
  clear e10 e11 HNI HNB
  unfold markT at HO
  have hmb := digN_b (markN (onceK key nonce) (txt (marked (box.extract 0 n) beside)) (marked (box.extract 0 n) beside).size)
  generalize digN (markN (onceK key nonce) (txt (marked (box.extract 0 n) beside)) (marked (box.extract 0 n) beside).size) = m at *
  generalize underT key nonce (box.extract 0 n) = ut at *
  generalize (box.extract 0 n) = u at *
  generalize (box.extract n box.size) = x at *
  go_wp2_with (first | (refine ld_arr isArr32 g0 (by rfl) ?_) | (refine ld_arr isArr12 g1 (by rfl) ?_) | (refine wl_bs2 (by rfl) (by rfl) ?_; intro v2 s2 hb2 hz2; refine Hid.out ?_))
  replace hB := hB.trans (hb2.mono hB.size)
  replace g0 := g0.kept hb2
  replace g1 := g1.kept hb2
  clear hb2 hz2
  refine Hid.mk ?_
  go_wp2_with fail
  refine (hM _ _ s2).mono ?_
  rintro e v3 ⟨rfl, hb3⟩
  replace hB := hB.trans (hb3.mono hB.size)
  replace g0 := g0.kept hb3
  replace g1 := g1.kept hb3
  clear hb3 s2 hM
  have gn := fun o (ho : o = Obj.cells (WA .u8 16 fun _ => 0) 54 (0, 0)) => (by rw [ho]; exact heap_alloc_new v3 _ : ArrAt (v3.alloc o) v3.heap.size .u8 54 16 (fun _ => 0))
  have HBS := Hid.mk hB.size
  have hz0 := g0.lt
  have hz1 := g1.lt
  go_wp2_with (refine st_arr isArr16 (gn _ rfl) (by rfl) (by rfl) ?_; intro v4 g4 o4; refine Hid.out ?_)
  replace hB := (hB.alloc HBS.out _).trans (o4.below HBS.out)
  replace g0 := (g0.alloc _).only o4 (by omega)
  replace g1 := (g1.alloc _).only o4 (by omega)
  clear o4 gn HBS hz0 hz1
  have hcv := str_back 16 v3.heap.size 16 v4 16 m g4.row (fun j _ => hmb j) rfl
  refine Hid.mk ?_
  go_wp2_with fail
  refine (Same_run (mkS 16 m) x _ (by rw [mkS_size]; omega)).mono ?_
  rintro e v6 ⟨rfl, hb6⟩
  replace hB := hB.trans (hb6.mono hB.size)
  replace g0 := g0.kept hb6
  replace g1 := g1.kept hb6
  clear hb6 g4 hcv
  by_cases heq : x = mkS 16 m
  ·have hd : decide (mkS 16 m = x) = true := decide_eq_true heq.symm
   have HR : Hid (openT key nonce box beside = (ut, 0)) := Hid.mk (by rw [HO.out, if_pos heq])
   rw [hd]
   clear heq hd HO
   go_wp2_with (first | (refine ld_arr isArr32 g0 (by rfl) ?_) | (refine ld_arr isArr12 g1 (by rfl) ?_))
   refine (hST _).mono ?_
   rintro e v7 ⟨rfl, hb7⟩
   replace hB := hB.trans (hb7.mono hB.size)
   clear hb7 g0 g1 hST
   go_wp2_with fail
   exact bodyPost_ret (v := .tuple #[.string ut, .int .i64 0]) (results_two Tryz.results132 (by rfl) (by rfl)) rfl ⟨by rw [HR.out], hB⟩
  ·have hd : decide (mkS 16 m = x) = false := decide_eq_false (fun h => heq h.symm)
   have HR : Hid (openT key nonce box beside = (ByteArray.empty, 13)) := Hid.mk (by rw [HO.out, if_neg heq])
   rw [hd]
   clear heq hd HO hST
   go_wp2_with fail
   exact bodyPost_ret (v := .tuple #[.string ByteArray.empty, .int .i64 13]) (results_two Tryz.results132 (by rfl) (by rfl)) rfl ⟨by rw [HR.out], hB⟩
 ·have HR : Hid (openT key nonce box beside = (ByteArray.empty, 13)) := Hid.mk (by unfold openT; rw [if_neg (fun h => h16 h.1)])
  have hlI : (box.size : Int) < 16 := by omega
  go_enter Tryz.func132, Tryz.ntmps132
  go_wp2_with fail
  exact bodyPost_ret (v := .tuple #[.string ByteArray.empty, .int .i64 13]) (results_two Tryz.results132 (by rfl) (by rfl)) rfl ⟨by rw [HR.out], hB⟩
end Go.Proofs.YthghcjepdhkfdaaGreatDoor

/-
  Own text. What behindZeros and Nonce of package aead answer.
-/
namespace Go.Proofs.YthghcjepdhkfdaaGreatDoor
open Go.RowKit Go.Proofs
set_option maxRecDepth 100000
theorem sl12L4 (b : Nat) (w : World) : (Instr.sliceAt 26 (.pointer (some ⟨b, 0, none⟩)) (some (.int .i64 4)) none none).run Tryz.prog w = .ok (.slice (some ⟨b, 4, none⟩) 8 8) w := by simp [go_sem]
theorem sl8w (b : Nat) (w : World) : (Instr.sliceAt 177 (.pointer (some ⟨b, 0, none⟩)) none none none).run Tryz.prog w = .ok (.slice (some ⟨b, 0, none⟩) 8 8) w := by simp [go_sem]
def tailN (end8 : Nat → Int) : Nat → Int := over (fun _ => 0) 4 8 end8
theorem tailN_b {end8 : Nat → Int} (h : Byts 8 end8) : Byts 12 (tailN end8) := fun i hi => by
 unfold tailN over
 split
 ·exact h _ (by omega)
 ·show 0 ≤ (0 : Int) ∧ (0 : Int) < 256
  omega
set_option maxHeartbeats 4000000 in
theorem behindZ_run (end8 : Nat → Int) (w : World) :
  Calls Tryz.prog 151 #[.agg (WA .u8 8 end8)] w fun e w' => e = .returned (.agg (WA .u8 12 (tailN end8))) ∧ Below w.heap.size w w' := by
 have g0 : ArrAt (((w.alloc (.cells (WA .u8 8 end8) 177)).alloc (.cells (WA .u8 12 fun _ => 0) 26)).alloc (.cells (WA .u8 12 fun _ => 0) 26)) w.heap.size .u8 177 8 end8 := heap_a31 w _ _ _
 have g1 : ArrAt (((w.alloc (.cells (WA .u8 8 end8) 177)).alloc (.cells (WA .u8 12 fun _ => 0) 26)).alloc (.cells (WA .u8 12 fun _ => 0) 26)) (w.heap.size + 1) .u8 26 12 (fun _ => 0) := heap_a32 w _ _ _
 have g2 : ArrAt (((w.alloc (.cells (WA .u8 8 end8) 177)).alloc (.cells (WA .u8 12 fun _ => 0) 26)).alloc (.cells (WA .u8 12 fun _ => 0) 26)) (w.heap.size + 1 + 1) .u8 26 12 (fun _ => 0) := heap_a3 w _ _ _
 have hB : Below w.heap.size w (((w.alloc (.cells (WA .u8 8 end8) 177)).alloc (.cells (WA .u8 12 fun _ => 0) 26)).alloc (.cells (WA .u8 12 fun _ => 0) 26)) := (((Below.refl _ w).alloc (by simp) _).alloc (by simp) _).alloc (by simp; omega) _
 go_enter Tryz.func151, Tryz.ntmps151
 go_wp2_with fail
 refine wp_gen (fun v => ArrAt v (w.heap.size + 1 + 1) .u8 26 12 (fun _ => 0) ∧ ArrAt v w.heap.size .u8 177 8 (end8) ∧ ArrAt v (w.heap.size + 1) .u8 26 12 (fun _ => 0) ∧ Below w.heap.size w v) ⟨g2, g0, g1, hB⟩ ?_
 clear g2 g0 g1 hB
 rintro v0 ⟨g2, g0, g1, hB⟩
 refine wp_region3 (Below w.heap.size w) v0.heap.size
  [((w.heap.size + 1 + 1), once (WA .u8 12 (fun _ => 0)) 26 2 (WA .u8 12 (over (fun _ => 0) 4 8 (end8)))), (w.heap.size, fixd (WA .u8 8 (end8)) 177), ((w.heap.size + 1), fixd (WA .u8 12 (fun _ => 0)) 26)]
  [kv (.slice (some ⟨(w.heap.size + 1 + 1), 4, none⟩) 8 8), kv (.slice (some ⟨w.heap.size, 0, none⟩) 8 8), .val fun _ => True]
  [.none, .none, .base 0 1]
  [some 4, some 5, some 6]
  [(3, .pointer (some ⟨(w.heap.size + 1 + 1), 0, none⟩)), (1, .pointer (some ⟨w.heap.size, 0, none⟩))]
  [[], [], [.slot 0, .slot 1, .base 0 0, .base 1 0]]
  [.base 0 1, .base 1 0, .base 2 0] [4, 5, 6]
  rfl (by kernel_rfl) ⟨rfl, rfl, trivial⟩ (Below.drew hB) (Nat.le_refl _) ⟨⟨g2.lt, obIn g2⟩, ⟨g0.lt, obIn g0⟩, ⟨g1.lt, obIn g1⟩, trivial⟩ ⟨⟨(show ((w.heap.size + 1 + 1) : Nat) ≠ w.heap.size from by omega), (show ((w.heap.size + 1 + 1) : Nat) ≠ (w.heap.size + 1) from by omega), trivial⟩, ⟨trivial, trivial⟩, trivial, trivial⟩ (below_G hB.size ⟨by omega, by omega, by omega, trivial⟩)
  ⟨
   (fun Q aq ww own hS hBg fr kn => .inl ⟨trivial, fun K hK => wp_value (exec_slL (v := .pointer (some ⟨(w.heap.size + 1 + 1), 0, none⟩)) (u := .int .i64 4) rfl fr.1 rfl (sl12L4 (w.heap.size + 1 + 1) ww)) (hK _ _ ⟨Touch.refl _ _, rfl⟩)⟩),
   (fun Q aq ww own hS hBg fr kn => .inl ⟨trivial, fun K hK => wp_value (exec_sl (v := .pointer (some ⟨w.heap.size, 0, none⟩)) rfl fr.2.1 (sl8w w.heap.size ww)) (hK _ _ ⟨Touch.refl _ _, rfl⟩)⟩),
   (fun Q aq ww own hS hBg fr kn => .inl ⟨trivial, fun K hK => act_copy rfl kn.1 kn.2.1 (obAt kn.2.2.1) (m := 8) rfl (by omega) (r := end8) (fun q hq => by rw [Nat.zero_add]; exact ArrAt.cell (obAt kn.2.2.2.1) q (by omega)) (fun w2 hg ho => hK _ _ ⟨⟨touch_only ho, obIn hg⟩, trivial⟩)⟩),
   trivial⟩ ?_
 intro vs own v1 hB1 hs1 kn inj
 clear inj g2 g0 g1 hB
 have g2 : ArrAt v1 (w.heap.size + 1 + 1) .u8 26 12 (over (fun _ => 0) 4 8 (end8)) := obAt kn.1
 have g0 : ArrAt v1 w.heap.size .u8 177 8 (end8) := obAt kn.2.1
 have g1 : ArrAt v1 (w.heap.size + 1) .u8 26 12 (fun _ => 0) := obAt kn.2.2.1
 have hB := hB1
 clear kn hB1 hs1
 simp only [putAll, Act.put, List.setIfInBounds_toArray, List.set_cons_zero, List.set_cons_succ]
 go_wp2_with (first | (refine ld_arr isArr12 g2 (by rfl) ?_) | (refine st_arr isArr12 g1 (by rfl) (by rfl) ?_; intro v4 g4 o4; refine Hid.out ?_))
 refine Hid.mk ?_
 go_wp2_with fail
 exact bodyPost_ret (res_arr Tryz.results151 isArr12 g4 (by rfl)) rfl ⟨rfl, hB.trans (o4.below (by omega))⟩
set_option maxHeartbeats 4000000 in
theorem Nonce_run (n : Int) (w : World) :
  Calls Tryz.prog 121 #[.int .u64 n] w fun e w' => e = .returned (.agg (WA .u8 12 (tailN (digN n)))) ∧ Below w.heap.size w w' := by
 have g0 : ArrAt (w.alloc (.cells (WA .u8 12 fun _ => 0) 26)) w.heap.size .u8 26 12 (fun _ => 0) := heap_alloc_new w _
 have hB : Below w.heap.size w (w.alloc (.cells (WA .u8 12 fun _ => 0) 26)) := (Below.refl _ w).alloc (Nat.le_refl _) _
 go_enter Tryz.func121, Tryz.ntmps121
 go_wp2_with fail
 refine (lowest_run n _).mono ?_
 rintro e v1 ⟨rfl, hb1⟩
 replace g0 := g0.kept hb1
 replace hB := hB.trans (hb1.mono hB.size)
 clear hb1
 go_wp2_with fail
 refine (behindZ_run (digN n) _).mono ?_
 rintro e v2 ⟨rfl, hb2⟩
 replace g0 := g0.kept hb2
 replace hB := hB.trans (hb2.mono hB.size)
 clear hb2
 go_wp2_with (refine st_arr isArr12 g0 (by rfl) (by rfl) ?_; intro v4 g4 o4; refine Hid.out ?_)
 refine Hid.mk ?_
 go_wp2_with fail
 exact bodyPost_ret (res_arr Tryz.results121 isArr12 g4 (by rfl)) rfl ⟨rfl, hB.trans (o4.below (Nat.le_refl _))⟩
end Go.Proofs.YthghcjepdhkfdaaGreatDoor

/-
  Own text. What narrow of package aead answers; the document's narrow.
-/
namespace Go.Proofs.YthghcjepdhkfdaaGreatDoor
open Go.RowKit Go.Proofs
set_option maxRecDepth 100000
end Go.Proofs.YthghcjepdhkfdaaGreatDoor

/-
  Own text. The document's narrow.
-/
namespace Go.Proofs.YthghcjepdhkfdaaGreatDoor
open Go.RowKit Go.Proofs
set_option maxRecDepth 100000
end Go.Proofs.YthghcjepdhkfdaaGreatDoor

/-
  Own text. What SealWide and OpenWide answer, of package aead and of the document.
-/
namespace Go.Proofs.YthghcjepdhkfdaaGreatDoor
open Go.RowKit Go.Proofs
set_option maxRecDepth 100000
end Go.Proofs.YthghcjepdhkfdaaGreatDoor

/-
  Own text. The document's Nonce.
-/
namespace Go.Proofs.YthghcjepdhkfdaaGreatDoor
open Go.RowKit Go.Proofs
set_option maxRecDepth 100000
end Go.Proofs.YthghcjepdhkfdaaGreatDoor

/-
  Own text. The document's answer for noise: a handshake's state, and what is done to it.
-/
namespace Go.Proofs.YthghcjepdhkfdaaGreatDoor
open Go.RowKit Go.Proofs
set_option maxRecDepth 100000
section
variable {w w' : World} {b : Nat} {H C : Nat → Int}
end
theorem belT (b : Nat) {w w' : World} (h : Below w.heap.size w w') : Touch (fun x => x = b) w w' := ⟨h.os, h.tape, h.output, h.size, fun k hk _ => h.block k hk⟩
def mixH (H : Nat → Int) (s : ByteArray) : Nat → Int := sumF (mkS 32 H ++ s)
theorem mixH_b (H : Nat → Int) (s : ByteArray) (n : Nat) : Byts n (mixH H s) := fun i _ => outF_b _ i
def chn (C : Nat → Int) (s : ByteArray) : Nat → Nat → Int := chK (macF (mkS 32 C) s)
theorem chn_b (C : Nat → Int) (s : ByteArray) (i n : Nat) : Byts n (chn C s i) := fun j _ => macF_b _ _ j
end Go.Proofs.YthghcjepdhkfdaaGreatDoor

/-
  Own text. The document's answer for noise: sealing, opening, the beginning, numbers.
-/
namespace Go.Proofs.YthghcjepdhkfdaaGreatDoor
open Go.RowKit Go.Proofs
set_option maxRecDepth 100000
def non0 : Nat → Int := tailN (digN 0)
theorem non0_b : Byts 12 non0 := tailN_b (fun i _ => digN_b 0 i)
def nameT : ByteArray := ⟨#[78, 111, 105, 115, 101, 95, 73, 75, 112, 115, 107, 50, 95, 50, 53, 53, 49, 57, 95, 67, 104, 97, 67, 104, 97, 80, 111, 108, 121, 95, 66, 76, 65, 75, 69, 50, 115]⟩
def begC : Nat → Int := sumF nameT
def begH (t : Nat → Int) : Nat → Int := mixH (mixH begC ⟨#[97, 100, 105, 116, 32, 49]⟩) (mkS 32 t)
theorem begC_b (n : Nat) : Byts n begC := fun i _ => outF_b _ i
end Go.Proofs.YthghcjepdhkfdaaGreatDoor

/-
  Own text. What Canon of package field answers, for every 32 bytes: a contract over the translation.
-/
namespace Go.Proofs.YthghcjepdhkfdaaGreatDoor.Fld
open Go.RowKit Go.Proofs
set_option maxRecDepth 100000
theorem limb_V4 {n : Int} (h0 : 0 ≤ n) (h1 : n < W256) : V4 (limb n 0) (limb n 8) (limb n 16) (limb n 24) = n := by
 unfold V4 limb W256 at *
 omega
set_option maxHeartbeats 1000000 in
theorem canon_any (n : Int) (w : World) (h0 : 0 ≤ n) (h1 : n < W256) :
  Calls Tryz.prog 100 #[.agg (BA n)] w fun e w' => e = .returned (.agg (BA (n % P255))) ∧ Below w.heap.size w w' := by
 go_enter Tryz.func100, Tryz.ntmps100
 go_wp2_with (refine ld_bytes rfl _ rfl _ _ rfl (heap_alloc2_old w _ _) (BA_size _) ?_)
 refine (load_any n _).mono ?_
 rintro e w1 ⟨rfl, hb1⟩
 have g1 := bheap hb1 (heap_alloc2_new w _ _) (by simp <;> omega)
 have hB1 : Hid (Below w.heap.size w w1) := by
  refine Below.trans ?_ (hb1.mono (by simp <;> omega))
  repeat first | exact Below.refl _ _ | refine Below.alloc ?_ (by simp <;> omega) _
 clear hb1
 go_wp2_with fail
 refine (store_any _ _ _ _ _ (limb_u64 _ _) (limb_u64 _ _) (limb_u64 _ _) (limb_u64 _ _)).mono ?_
 rintro e w2 ⟨rfl, hb2⟩
 have g2 := bheap hb2 g1 (heap_lt g1)
 have hB2 : Hid (Below w.heap.size w w2) := Below.trans hB1.out (hb2.mono hB1.out.size)
 clear hb2 g1
 go_wp2_with (refine st_bytes rfl _ _ rfl _ _ rfl rfl _ g2 rfl ?_; intro w3 g3 o3)
 refine bodyPost_ret (v := .agg (BA (n % P255))) ?_ rfl ⟨rfl, Below.trans hB2.out (Only.below (b := w.heap.size + 1) (B := w.heap.size) o3 (by omega))⟩
 rw [limb_V4 h0 h1] at g3
 exact results_cell_row rfl _ _ _ _ _ _ _ rfl g3 Tryz.underlying22 rfl (by rw [BA_size]; exact info32)
end Go.Proofs.YthghcjepdhkfdaaGreatDoor.Fld

/-
  Own text. What Of of package field answers, for every whole number of 64 bits: a contract over the translation.
-/
namespace Go.Proofs.YthghcjepdhkfdaaGreatDoor.Fld
open Go.RowKit Go.Proofs
set_option maxRecDepth 100000
theorem neg_wrap (n : Int) (h0 : -9223372036854775808 ≤ n) (h1 : n < 0) : IntKind.u64.wrap (-IntKind.u64.wrap n) = -n := by
 rw [IntKind.wrap_u64, IntKind.wrap_u64]; omega
theorem pos_wrap (n : Int) (h0 : 0 ≤ n) (h1 : n < 9223372036854775808) : IntKind.u64.wrap n = n := by
 rw [IntKind.wrap_u64]; omega
theorem V4_one (n : Int) : V4 n 0 0 0 = n := by unfold V4; omega
theorem neg_mod {n z : Int} (h : z = P255 - (-n)) : z % P255 = n % P255 := by
 rw [h, show P255 - (-n) = n + P255 by omega, Int.add_emod_right]
set_option maxHeartbeats 1000000 in
theorem of_any (n : Int) (w : World) (hP : PrimeAt w) (h0 : -9223372036854775808 ≤ n) (h1 : n < 9223372036854775808) :
  Calls Tryz.prog 58 #[.int .i64 n] w fun e w' => e = .returned (.agg (BA (n % P255))) ∧ Below w.heap.size w w' := by
 have hp0 := primeAt_pos hP
 have HP := Hid.mk hP
 clear hP
 by_cases hn : n < 0
 ·have hw := neg_wrap n h0 hn
  go_enter Tryz.func58, Tryz.ntmps58
  go_wp2_with fail
  refine (opposite_any _ _ _ _ _ (primeAt_below HP.out ((Below.refl _ _).alloc (Nat.le_refl _) _) hp0) (by unfold U64; omega) u64_0 u64_0 u64_0 (by rw [V4_one]; unfold P255; omega)).mono ?_
  rintro e w1 ⟨z0, z1, z2, z3, hz0, hz1, hz2, hz3, ez, rfl, hb1⟩
  have g1 := bheap hb1 (heap_alloc_new w _) (by simp <;> omega)
  have hB1 : Hid (Below w.heap.size w w1) := Below.trans ((Below.refl _ _).alloc (Nat.le_refl _) _) (hb1.mono (by simp <;> omega))
  have EZ := Hid.mk ez
  clear hb1 ez
  go_wp2_with fail
  refine (store_any _ _ _ _ _ hz0 hz1 hz2 hz3).mono ?_
  rintro e w2 ⟨rfl, hb2⟩
  have g2 := bheap hb2 g1 (heap_lt g1)
  have hB2 : Hid (Below w.heap.size w w2) := Below.trans hB1.out (hb2.mono hB1.out.size)
  clear hb2 g1
  go_wp2_with (refine st_bytes rfl _ _ rfl _ _ rfl rfl _ g2 rfl ?_; intro w3 g3 o3)
  refine bodyPost_ret (v := .agg (BA (n % P255))) ?_ rfl ⟨rfl, Below.trans hB2.out (Only.below (b := w.heap.size) (B := w.heap.size) o3 (by omega))⟩
  have ez := EZ.out
  rw [V4_one] at ez
  rw [neg_mod ez] at g3
  exact results_cell_row rfl _ _ _ _ _ _ _ rfl g3 Tryz.underlying22 rfl (by rw [BA_size]; exact info32)
 ·have hw := pos_wrap n (by omega) h1
  go_enter Tryz.func58, Tryz.ntmps58
  go_wp2_with fail
  refine (store_any _ _ _ _ _ (by unfold U64; omega) u64_0 u64_0 u64_0).mono ?_
  rintro e w2 ⟨rfl, hb2⟩
  have g2 := bheap hb2 (heap_alloc_new w _) (by simp <;> omega)
  have hB2 : Hid (Below w.heap.size w w2) := Below.trans ((Below.refl _ _).alloc (Nat.le_refl _) _) (hb2.mono (by simp <;> omega))
  clear hb2
  go_wp2_with (refine st_bytes rfl _ _ rfl _ _ rfl rfl _ g2 rfl ?_; intro w3 g3 o3)
  refine bodyPost_ret (v := .agg (BA (n % P255))) ?_ rfl ⟨rfl, Below.trans hB2.out (Only.below (b := w.heap.size) (B := w.heap.size) o3 (by omega))⟩
  rw [V4_one] at g3
  exact results_cell_row rfl _ _ _ _ _ _ _ rfl g3 Tryz.underlying22 rfl (by rw [BA_size]; exact info32)
end Go.Proofs.YthghcjepdhkfdaaGreatDoor.Fld

/-
  Own text. A region that leaves its order open, walked once: what only looks (under a condition S on the world) is taken first; what acts comes up alone; an act that T marks keeps S. No program is named here.
-/
namespace Go.Proofs.YthghcjepdhkfdaaGreatDoor.Fld
open Go
section
variable {P : Program} {ops : Array Oper} {Q : Exit → Act → World → Prop} {md : Region.Mode} {S : World → Prop} {T : Nat → Bool}
def wpAnyT (P : Program) (md : Region.Mode) (ops : Array Oper) (Q : Exit → Act → World → Prop) (S : World → Prop) (T : Nat → Bool) : Nat → Array Bool → Act → World → Prop
 | 0, listed, a, w => Region.ready md ops listed = [] ∧ Q .normal a w
 | fuel + 1, listed, a, w =>
  (Region.ready md ops listed = [] → Q .normal a w) ∧
  ∀ i ∈ Region.ready md ops listed, wpOp P ops Q i (fun a' w' => (T i = true → S w → S w') ∧ wpAnyT P md ops Q S T fuel (listed.setIfInBounds i true) a' w') a w
theorem wpAny_of_T : ∀ (fuel : Nat) (listed : Array Bool) (a : Act) (w : World), wpAnyT P md ops Q S T fuel listed a w → wpAny P md ops Q fuel listed a w
 | 0, _, _, _, h => h
 | fuel + 1, _, _, _, h => ⟨h.1, fun i hi => wpOp_mono (fun a' w' h' => wpAny_of_T fuel _ a' w' h'.2) (h.2 i hi)⟩
def waits (md : Region.Mode) (oj : Oper) (i : Nat) : Bool := oj.after.any fun e => Region.binds md e && e.on == i
theorem waits_spec {oj : Oper} {i : Nat} (h : waits md oj i = true) : ∃ e ∈ oj.after, Region.binds md e = true ∧ e.on = i := by
 obtain ⟨e, he, hb⟩ := Array.any_eq_true'.1 h
 simp only [Bool.and_eq_true, beq_iff_eq] at hb
 exact ⟨e, he, hb.1, hb.2⟩
theorem wpAnyT_first {i : Nat} {oi : Oper} {v : Value} (hi : ops[i]? = some oi) (hsel : ∀ (j : Nat) (o : Oper) cs b, ops[j]? = some o → o.op ≠ .select cs b)
  (hQ : ∀ c a w, Q (.panic c) (a.put oi.dst v) w → Q (.panic c) a w) :
  ∀ (fuel : Nat) (listed : Array Bool) (a : Act) (w : World),
   (∀ j oj, ops[j]? = some oj → j ≠ i → listed.getD j true = false → (∀ e ∈ oj.after, Region.binds md e = true → e.on ≠ i) → oi.apart ops oj = true) →
   (∀ j oj, ops[j]? = some oj → j ≠ i → listed.getD j true = false → T j = false → ∃ e ∈ oj.after, Region.binds md e = true ∧ e.on = i) →
   i ∈ Region.ready md ops listed → YieldsIf P ops S oi v a → S w →
   wpAnyT P md ops Q S T fuel (listed.setIfInBounds i true) (a.put oi.dst v) w → wpAnyT P md ops Q S T (fuel + 1) listed a w := by
 intro fuel
 induction fuel with
 | zero =>
  intro listed a w _ _ hr hy hS H
  refine ⟨fun h => (by rw [h] at hr; cases hr), fun j hj => ?_⟩
  by_cases hji : j = i
  ·subst hji; exact hy.wpOp hi hS ⟨fun _ h => h, H⟩
  ·have := ready_mono hj hji
   rw [H.1] at this
   cases this
 | succ fuel ih =>
  intro listed a w hfree hT hr hy hS H
  refine ⟨fun h => (by rw [h] at hr; cases hr), fun j hj => ?_⟩
  by_cases hji : j = i
  ·subst hji; exact hy.wpOp hi hS ⟨fun _ h => h, H⟩
  ·have h1 := H.2 j (ready_mono hj hji)
   obtain ⟨hjun, oj, hoj, hall⟩ := mem_ready.1 hj
   have hnot : ∀ e ∈ oj.after, Region.binds md e = true → e.on ≠ i := fun e he hb heq => by
    have h1 := hall e he hb
    have h0 := (mem_ready.1 hr).1
    rw [heq] at h1
    rcases Nat.lt_or_ge i listed.size with h' | h'
    ·simp [h'] at h0 h1; rw [h0] at h1; cases h1
    ·simp [Array.getElem?_eq_none h'] at h1
   have hTj : T j = true := by
    cases hq : T j with
    | true => rfl
    | false => obtain ⟨e, he, hb, ho⟩ := hT j oj hoj hji hjun hq; exact absurd ho (hnot e he hb)
   have h2 := wpOp_putIf hoj (hfree j oj hoj hji hjun hnot) (fun cs b => hsel i oi cs b hi) (fun cs b => hsel j oj cs b hoj) hQ hy h1
   have hun : ∀ k, (listed.setIfInBounds j true).getD k true = false → listed.getD k true = false := fun k hk => by
    by_cases hjk : j = k
    ·subst hjk; exact hjun
    ·rw [getD_set_ne true hjk] at hk; exact hk
   refine wpOp_mono (fun a' w' h3 => ⟨h3.2.1, ih (listed.setIfInBounds j true) a' w' (fun k ok hk hki hu hno => hfree k ok hk hki (hun k hu) hno)
    (fun k ok hk hki hu ht => hT k ok hk hki (hun k hu) ht) (ready_mono hr (Ne.symm hji)) h3.1 (h3.2.1 hTj hS) ?_⟩) h2
   rw [Array.setIfInBounds_comm _ _ hji]
   exact h3.2.2
theorem wpAnyT_firstW {i : Nat} {oi : Oper} {v : Value} (hi : ops[i]? = some oi) (hsel : ∀ (j : Nat) (o : Oper) cs b, ops[j]? = some o → o.op ≠ .select cs b)
  (hQ : ∀ c a w, Q (.panic c) (a.put oi.dst v) w → Q (.panic c) a w) :
  ∀ (fuel : Nat) (listed : Array Bool) (a : Act) (w : World),
   (∀ j oj, ops[j]? = some oj → j ≠ i → listed.getD j true = false → (∀ e ∈ oj.after, Region.binds md e = true → e.on ≠ i) → oi.apart ops oj = true) →
   i ∈ Region.ready md ops listed → YieldsIf P ops (fun _ => True) oi v a →
   wpAnyT P md ops Q S T fuel (listed.setIfInBounds i true) (a.put oi.dst v) w → wpAnyT P md ops Q S T (fuel + 1) listed a w := by
 intro fuel
 induction fuel with
 | zero =>
  intro listed a w _ hr hy H
  refine ⟨fun h => (by rw [h] at hr; cases hr), fun j hj => ?_⟩
  by_cases hji : j = i
  ·subst hji; exact hy.wpOp hi trivial ⟨fun _ h => h, H⟩
  ·have := ready_mono hj hji
   rw [H.1] at this
   cases this
 | succ fuel ih =>
  intro listed a w hfree hr hy H
  refine ⟨fun h => (by rw [h] at hr; cases hr), fun j hj => ?_⟩
  by_cases hji : j = i
  ·subst hji; exact hy.wpOp hi trivial ⟨fun _ h => h, H⟩
  ·have h1 := H.2 j (ready_mono hj hji)
   obtain ⟨hjun, oj, hoj, hall⟩ := mem_ready.1 hj
   have hnot : ∀ e ∈ oj.after, Region.binds md e = true → e.on ≠ i := fun e he hb heq => by
    have h1 := hall e he hb
    have h0 := (mem_ready.1 hr).1
    rw [heq] at h1
    rcases Nat.lt_or_ge i listed.size with h' | h'
    ·simp [h'] at h0 h1; rw [h0] at h1; cases h1
    ·simp [Array.getElem?_eq_none h'] at h1
   have h2 := wpOp_putIf hoj (hfree j oj hoj hji hjun hnot) (fun cs b => hsel i oi cs b hi) (fun cs b => hsel j oj cs b hoj) hQ hy h1
   have hun : ∀ k, (listed.setIfInBounds j true).getD k true = false → listed.getD k true = false := fun k hk => by
    by_cases hjk : j = k
    ·subst hjk; exact hjun
    ·rw [getD_set_ne true hjk] at hk; exact hk
   refine wpOp_mono (fun a' w' h3 => ⟨h3.2.1, ih (listed.setIfInBounds j true) a' w' (fun k ok hk hki hu hno => hfree k ok hk hki (hun k hu) hno)
    (ready_mono hr (Ne.symm hji)) h3.1 ?_⟩) h2
   rw [Array.setIfInBounds_comm _ _ hji]
   exact h3.2.2
def mixB (md : Region.Mode) (ops : Array Oper) (F : Nat → Nat) (T : Nat → Bool) : List Nat → Array Bool → Bool
 | [], listed => (Region.ready md ops listed).isEmpty
 | i :: l, listed =>
  (match F i with
   | 0 => Region.ready md ops listed == [i]
   | 1 => (Region.ready md ops listed).contains i && Region.free md ops listed i &&
    (List.range ops.size).all (fun j => j == i || listed.getD j true || T j || match ops[j]? with | some oj => waits md oj i | none => true)
   | _ => (Region.ready md ops listed).contains i && Region.free md ops listed i) && mixB md ops F T l (listed.setIfInBounds i true)
def wpMix (P : Program) (ops : Array Oper) (Q : Exit → Act → World → Prop) (S : World → Prop) (F : Nat → Nat) (T : Nat → Bool) : List Nat → Act → World → Prop
 | [], a, w => Q .normal a w
 | i :: l, a, w => match F i with
  | 0 => wpOp P ops Q i (fun a' w' => (T i = true → S w → S w') ∧ wpMix P ops Q S F T l a' w') a w
  | 1 => ∃ o v, ops[i]? = some o ∧ YieldsIf P ops S o v a ∧ S w ∧ wpMix P ops Q S F T l (a.put o.dst v) w
  | _ => ∃ o v, ops[i]? = some o ∧ YieldsIf P ops (fun _ => True) o v a ∧ wpMix P ops Q S F T l (a.put o.dst v) w
theorem wpAnyT_mix {F : Nat → Nat} (hs : Region.noSelect ops = true) (hQ : ∀ c a d v w, Q (.panic c) (a.put d v) w → Q (.panic c) a w) :
  ∀ (l : List Nat) (listed : Array Bool) (a : Act) (w : World), mixB md ops F T l listed = true → wpMix P ops Q S F T l a w → wpAnyT P md ops Q S T l.length listed a w
 | [], listed, a, w, hB, h => ⟨by simpa [mixB] using hB, h⟩
 | i :: l, listed, a, w, hB, h => by
  simp only [mixB, Bool.and_eq_true] at hB
  obtain ⟨hB1, hB2⟩ := hB
  simp only [wpMix] at h
  match hF : F i with
  | 0 =>
   simp only [hF, beq_iff_eq] at hB1 h
   refine ⟨fun h0 => (by rw [hB1] at h0; cases h0), fun j hj => ?_⟩
   rw [hB1] at hj
   obtain rfl : j = i := by simpa using hj
   exact wpOp_mono (fun a' w' h' => ⟨h'.1, wpAnyT_mix hs hQ l _ _ _ hB2 h'.2⟩) h
  | 1 =>
   simp only [hF, Bool.and_eq_true] at hB1 h
   obtain ⟨⟨hr, hf⟩, hw⟩ := hB1
   obtain ⟨o, v, ho, hy, hS, hrest⟩ := h
   refine wpAnyT_first ho (Region.noSelect_spec hs) (fun c a w => hQ c a _ _ w) _ listed a w (Region.free_spec ho hf) (fun j oj hj hji hun ht => ?_) (by simpa using hr) hy hS (wpAnyT_mix hs hQ l _ _ _ hB2 hrest)
   have hjlt : j < ops.size := (Array.getElem?_eq_some_iff.1 hj).1
   have h1 := List.all_eq_true.1 hw j (List.mem_range.2 hjlt)
   simp only [hun, ht, hj, Bool.or_false, Bool.or_eq_true, beq_iff_eq] at h1
   rcases h1 with h1 | h1
   ·exact absurd h1 hji
   ·exact waits_spec h1
  | n + 2 =>
   simp only [hF, Bool.and_eq_true] at hB1 h
   obtain ⟨hr, hf⟩ := hB1
   obtain ⟨o, v, ho, hy, hrest⟩ := h
   exact wpAnyT_firstW ho (Region.noSelect_spec hs) (fun c a w => hQ c a _ _ w) _ listed a w (Region.free_spec ho hf) (by simpa using hr) hy (wpAnyT_mix hs hQ l _ _ _ hB2 hrest)
theorem wp_region_mix {id : Nat} {a : Act} {w : World} (S : World → Prop) (F : Nat → Nat) (T : Nat → Bool) (l : List Nat) (hm : P.follows .mixedOrders = true)
  (hB : (Region.noSelect ops && l.length == ops.size && mixB .any ops F T l (Array.replicate ops.size false)) = true)
  (hQ : ∀ c a d v w, Q (.panic c) (a.put d v) w → Q (.panic c) a w)
  (h : wpMix P ops Q S F T l a w.drew) : (Code.region id ops true).wp P Q a w := by
 simp only [Bool.and_eq_true, beq_iff_eq] at hB
 obtain ⟨⟨hs, hl⟩, hB⟩ := hB
 refine wp_region_any hm (wpAny_of_T (S := S) (T := T) _ _ _ _ ?_)
 have := wpAnyT_mix (S := S) hs hQ l _ a _ hB h
 rw [hl] at this
 exact this
theorem wp_region_mixS {id : Nat} {a : Act} {w : World} (S : World → Prop) (F : Nat → Nat) (T : Nat → Bool) (l : List Nat) (hm : P.follows .mixedOrders = true)
  (hB : (Region.noSelect ops && l.length == ops.size && mixB .any ops F T l (Array.replicate ops.size false)) = true)
  (hQ : ∀ c a d v w, Q (.panic c) (a.put d v) w → Q (.panic c) a w) (hS : S w.drew)
  (h : S w.drew → wpMix P ops Q S F T l a w.drew) : (Code.region id ops true).wp P Q a w := wp_region_mix S F T l hm hB hQ (h hS)
theorem at_drop {i : Nat} {o : Oper} {rest : List Oper} (ho : ops.toList.drop i = o :: rest) : ops[i]? = some o := by
 rw [← Array.getElem?_toList]
 have h := congrArg (fun l => l[0]?) ho
 simpa [List.getElem?_drop] using h
theorem mix_look {F : Nat → Nat} {i : Nat} {l : List Nat} {o : Oper} {v : Value} {a : Act} {w : World} (hF : F i = 1) {rest : List Oper} (ho : ops.toList.drop i = o :: rest) (hw : Region.wanted o (yielded ops a.tmps) = true) (hS : S w)
  (hy : ∀ w, S w → (execOp a.eval o).run P w = .ok (.value v) w) (h : wpMix P ops Q S F T l (a.put o.dst v) w) : wpMix P ops Q S F T (i :: l) a w := by
 simp only [wpMix, hF]
 exact ⟨o, v, at_drop ho, .inl ⟨hw, hy⟩, hS, h⟩
theorem mix_pure {F : Nat → Nat} {i : Nat} {l : List Nat} {o : Oper} {v : Value} {a : Act} {w : World} (hF : F i = 2) {rest : List Oper} (ho : ops.toList.drop i = o :: rest) (hw : Region.wanted o (yielded ops a.tmps) = true)
  (hy : ∀ w, (execOp a.eval o).run P w = .ok (.value v) w) (h : wpMix P ops Q S F T l (a.put o.dst v) w) : wpMix P ops Q S F T (i :: l) a w := by
 simp only [wpMix, hF]
 exact ⟨o, v, at_drop ho, .inl ⟨hw, fun w _ => hy w⟩, h⟩
theorem mix_act {F : Nat → Nat} {i : Nat} {l : List Nat} {o : Oper} {a : Act} {w : World} (hF : F i = 0) {rest : List Oper} (ho : ops.toList.drop i = o :: rest) (hw : Region.wanted o (yielded ops a.tmps) = true)
  (h : ∀ K : Act → World → Prop, (∀ a w', (T i = true → S w → S w') → wpMix P ops Q S F T l a w' → K a w') → o.wp P a w K Q) : wpMix P ops Q S F T (i :: l) a w := by
 simp only [wpMix, hF, wpOp, at_drop ho, hw, if_true]
 exact .inl (h _ (fun a w h1 h2 => ⟨h1, h2⟩))
theorem mix_done {F : Nat → Nat} {a : Act} {w : World} (h : Q .normal a w) : wpMix P ops Q S F T [] a w := h
end
end Go.Proofs.YthghcjepdhkfdaaGreatDoor.Fld

/-
  Own text. What Sub of package field answers, for every two times 32 bytes: a contract over the translation; whole rows in a region that leaves its order open.
-/
namespace Go.Proofs.YthghcjepdhkfdaaGreatDoor.Fld
open Go.RowKit Go.Proofs
set_option maxRecDepth 100000
theorem look_bytes {a : Act} {o : Oper} {x : Operand} {w : World} (ho : o.op = .load 22 x) (g : Nat) (cs : Array Value) (hx : a.eval x = .pointer (some ⟨g, 0, none⟩)) (hs : cs.size = 32)
  (hg : w.heap[g]? = some (.cells cs 22 (0, 0))) : (execOp a.eval o).run Tryz.prog w = .ok (.value (.agg cs)) w := by
 unfold execOp
 simp only [ho, hx, Instr.loadAt, Instr.sureAddr, Sem.run_bind, Sem.run_pure, Result.andThen_ok, run_loadVar_row w g 22 22 cs (0, 0) _ hg Tryz.underlying22 rfl (by rw [hs]; exact info32)]
theorem look_limbs {a : Act} {o : Oper} {x : Operand} {w : World} (ho : o.op = .load 142 x) (g : Nat) (v0 v1 v2 v3 : Value) (hx : a.eval x = .pointer (some ⟨g, 0, none⟩))
  (hg : w.heap[g]? = some (.cells #[v0, v1, v2, v3] 142 (0, 0))) : (execOp a.eval o).run Tryz.prog w = .ok (.value (.agg #[v0, v1, v2, v3])) w := by
 unfold execOp
 simp only [ho, hx, Instr.loadAt, Instr.sureAddr, Sem.run_bind, Sem.run_pure, Result.andThen_ok, run_loadVar_row w g 142 142 _ (0, 0) _ hg Tryz.underlying142 rfl (by kernel_rfl)]
theorem act_bytes {a : Act} {o : Oper} {w : World} {K : Act → World → Prop} {Q : Exit → Act → World → Prop} (x y : Operand) (ho : o.op = .store 22 x y)
  (g : Nat) (n : Int) (hx : a.eval x = .pointer (some ⟨g, 0, none⟩)) (hy : a.eval y = .agg (BA n)) (old : Array Value) (hg : w.heap[g]? = some (.cells old 22 (0, 0))) (hold : old.size = 32)
  (h : ∀ w2, w2.heap[g]? = some (.cells (BA n) 22 (0, 0)) → Only g w w2 → K (a.put o.dst undef) w2) : o.wp Tryz.prog a w K Q :=
 wp_store_row 22 x y ho g _ hx hy 22 old hg (by rw [BA_size]; exact info32) (by rw [BA_size]; exact hold) (BA_one n) (h _ (setRow_heap w g old _ 22 (0, 0) hg) (only_setRow w g _))
theorem act_limbs {a : Act} {o : Oper} {w : World} {K : Act → World → Prop} {Q : Exit → Act → World → Prop} (x y : Operand) (ho : o.op = .store 142 x y)
  (g : Nat) (y0 y1 y2 y3 : Int) (hx : a.eval x = .pointer (some ⟨g, 0, none⟩)) (hy : a.eval y = .agg #[.int .u64 y0, .int .u64 y1, .int .u64 y2, .int .u64 y3]) (v0 v1 v2 v3 : Value) (hg : w.heap[g]? = some (.cells #[v0, v1, v2, v3] 142 (0, 0)))
  (h : ∀ w2, w2.heap[g]? = some (.cells #[.int .u64 y0, .int .u64 y1, .int .u64 y2, .int .u64 y3] 142 (0, 0)) → Only g w w2 → K (a.put o.dst undef) w2) : o.wp Tryz.prog a w K Q :=
 wp_store_row 142 x y ho g _ hx hy 142 _ hg (by kernel_rfl) rfl (by simp [Value.oneCell']) (h _ (setRow_heap w g _ _ 142 (0, 0) hg) (only_setRow w g _))
theorem heap_a32 (w : World) (A B C : Obj) : (((w.alloc A).alloc B).alloc C).heap[w.heap.size + 1]? = some B := by
 rw [Below.heap_alloc _ _ _ (by simp <;> omega)]
 exact heap_alloc2_new w A B
theorem heap_a31 (w : World) (A B C : Obj) : (((w.alloc A).alloc B).alloc C).heap[w.heap.size]? = some A := by
 rw [Below.heap_alloc _ _ _ (by simp <;> omega)]
 exact heap_alloc2_old w A B
theorem mod_lt_P (n : Int) : 0 ≤ n % P255 ∧ n % P255 < P255 := ⟨Int.emod_nonneg _ (by unfold P255; decide), Int.emod_lt_of_pos _ (by unfold P255; decide)⟩
theorem sub_num {z a b y o k : Int} (e1 : y = b % P255) (e2 : o = P255 - y) (e3 : z = a + o + k * P255) : z % P255 = (a - b) % P255 := by
 have hb : b = P255 * (b / P255) + b % P255 := (Int.mul_ediv_add_emod b P255).symm
 have : z = (a - b) + P255 * (1 + k + b / P255) := by rw [e3, e2, e1]; rw [Int.mul_add, Int.mul_add, Int.mul_one, Int.mul_comm P255 k]; omega
 rw [this, Int.add_mul_emod_self_left]
def subF (i : Nat) : Nat := [1, 0, 1].getD i 0
def subT (i : Nat) : Bool := i != 8
set_option maxHeartbeats 1000000 in
theorem sub_any (a b : Int) (w : World) (hP : PrimeAt w) (ha0 : 0 ≤ a) (ha1 : a < W256) (hb0 : 0 ≤ b) (hb1 : b < W256) :
  Calls Tryz.prog 167 #[.agg (BA a), .agg (BA b)] w fun e w' => e = .returned (.agg (BA ((a - b) % P255))) ∧ Below w.heap.size w w' := by
 have hp0 := primeAt_pos hP
 have HP := Hid.mk hP
 clear hP
 go_enter Tryz.func167, Tryz.ntmps167
 go_wp2
 refine wp_gen (fun v => v.heap[w.heap.size]? = some (.cells (BA a) 22 (0, 0)) ∧ v.heap[w.heap.size + 1]? = some (.cells (BA b) 22 (0, 0)) ∧
  (∃ z : Array Value, v.heap[w.heap.size + 1 + 1]? = some (.cells z 22 (0, 0)) ∧ z.size = 32) ∧ Below w.heap.size w v)
  ⟨heap_a31 w _ _ _, heap_a32 w _ _ _, ⟨_, heap_a3 w _ _ _, rfl⟩, by repeat first | exact Below.refl _ _ | refine Below.alloc ?_ (by simp <;> omega) _⟩ ?_
 rintro v0 ⟨ga, gb, ⟨z, gz, sz⟩, hB⟩
 refine wp_region_mixS (fun v => v.heap[w.heap.size]? = some (.cells (BA a) 22 (0, 0)) ∧ v.heap[w.heap.size + 1]? = some (.cells (BA b) 22 (0, 0)))
  subF subT [0, 2, 1, 3, 4, 5, 6, 7, 8] rfl (by kernel_rfl) (fun _ _ d _ _ h => by cases d <;> exact h) ⟨ga, gb⟩ (fun HS => ?_)
 apply mix_look rfl rfl rfl HS
 focus exact fun v h => look_bytes rfl _ _ rfl (BA_size _) h.1
 simp only [Act.put, List.setIfInBounds_toArray, List.set_cons_zero, List.set_cons_succ]
 apply mix_look rfl rfl rfl HS
 focus exact fun v h => look_bytes rfl _ _ rfl (BA_size _) h.2
 simp only [Act.put, List.setIfInBounds_toArray, List.set_cons_zero, List.set_cons_succ]
 clear HS ga gb
 refine mix_act rfl rfl rfl ?_
 intro K hK
 go_simp
 refine (load_any a _).mono ?_
 rintro e v1 ⟨rfl, hb⟩
 have gz := bheap hb gz (heap_lt gz)
 have hB := Below.trans (Below.drew hB) (hb.mono hB.size)
 refine hK _ _ (fun _ h => ⟨bheap hb h.1 (heap_lt h.1), bheap hb h.2 (heap_lt h.2)⟩) ?_
 clear hK K hb
 refine mix_act rfl rfl rfl ?_
 intro K hK
 go_simp
 refine (load_any b _).mono ?_
 rintro e v2 ⟨rfl, hb⟩
 have gz := bheap hb gz (heap_lt gz)
 have hB := Below.trans hB (hb.mono hB.size)
 refine hK _ _ (fun _ h => ⟨bheap hb h.1 (heap_lt h.1), bheap hb h.2 (heap_lt h.2)⟩) ?_
 clear hK K hb
 refine mix_act rfl rfl rfl ?_
 intro K hK
 go_simp
 refine (least_any _ _ _ _ _ (limb_u64 _ _) (limb_u64 _ _) (limb_u64 _ _) (limb_u64 _ _)).mono ?_
 rintro e v3 ⟨y0, y1, y2, y3, hy0, hy1, hy2, hy3, ey, rfl, hb⟩
 have gz := bheap hb gz (heap_lt gz)
 have hB := Below.trans hB (hb.mono hB.size)
 refine hK _ _ (fun _ h => ⟨bheap hb h.1 (heap_lt h.1), bheap hb h.2 (heap_lt h.2)⟩) ?_
 clear hK K hb
 rw [limb_V4 hb0 hb1] at ey
 have hy := (mod_lt_P b).2
 have EY := Hid.mk ey
 have hle : V4 y0 y1 y2 y3 ≤ P255 := by rw [ey]; omega
 clear ey hy
 have HL := Hid.mk hle
 clear hle
 refine mix_act rfl rfl rfl ?_
 intro K hK
 go_simp
 refine (opposite_any _ _ _ _ _ (primeAt_below HP.out hB hp0) hy0 hy1 hy2 hy3 HL.out).mono ?_
 rintro e v4 ⟨o0, o1, o2, o3, ho0, ho1, ho2, ho3, eo, rfl, hb⟩
 have gz := bheap hb gz (heap_lt gz)
 have hB := Below.trans hB (hb.mono hB.size)
 refine hK _ _ (fun _ h => ⟨bheap hb h.1 (heap_lt h.1), bheap hb h.2 (heap_lt h.2)⟩) ?_
 clear hK K hb
 have EO := Hid.mk eo
 clear eo
 refine mix_act rfl rfl rfl ?_
 intro K hK
 go_simp
 refine (plus_any _ _ _ _ _ _ _ _ _ (limb_u64 _ _) (limb_u64 _ _) (limb_u64 _ _) (limb_u64 _ _) ho0 ho1 ho2 ho3).mono ?_
 rintro e v5 ⟨q0, q1, q2, q3, hq0, hq1, hq2, hq3, ⟨k, ek⟩, rfl, hb⟩
 have gz := bheap hb gz (heap_lt gz)
 have hB := Below.trans hB (hb.mono hB.size)
 refine hK _ _ (fun _ h => ⟨bheap hb h.1 (heap_lt h.1), bheap hb h.2 (heap_lt h.2)⟩) ?_
 clear hK K hb
 rw [limb_V4 ha0 ha1] at ek
 have EK := Hid.mk (sub_num EY.out EO.out ek)
 clear ek
 refine mix_act rfl rfl rfl ?_
 intro K hK
 go_simp
 refine (store_any _ _ _ _ _ hq0 hq1 hq2 hq3).mono ?_
 rintro e v6 ⟨rfl, hb⟩
 have gz := bheap hb gz (heap_lt gz)
 have hB := Below.trans hB (hb.mono hB.size)
 refine hK _ _ (fun _ h => ⟨bheap hb h.1 (heap_lt h.1), bheap hb h.2 (heap_lt h.2)⟩) ?_
 clear hK K hb
 refine mix_act rfl rfl rfl ?_
 intro K hK
 refine act_bytes _ _ rfl _ _ rfl rfl _ gz sz ?_
 intro v7 g7 o7
 refine hK _ _ (fun h => by cases h) ?_
 clear hK K
 refine mix_done ?_
 go_wp2
 rw [EK.out] at g7
 exact bodyPost_ret (v := .agg (BA ((a - b) % P255))) (results_cell_row rfl _ _ _ _ _ _ _ rfl g7 Tryz.underlying22 rfl (by rw [BA_size]; exact info32)) rfl
  ⟨rfl, Below.trans hB (Only.below (b := w.heap.size + 1 + 1) (B := w.heap.size) o7 (by omega))⟩
end Go.Proofs.YthghcjepdhkfdaaGreatDoor.Fld

/-
  Own text. What Add of package field answers, for every slice of 32 bytes each that is not nil: a contract over the translation.
-/
namespace Go.Proofs.YthghcjepdhkfdaaGreatDoor.Fld
open Go.RowKit Go.Proofs
set_option maxRecDepth 100000
def RowsAt (w : World) (b off : Nat) (ns : List Int) : Prop := ∀ k, k < ns.length → w.rangeAt b (off + k * 32) (BA (ns.getD k 0)).toList
theorem ld_mid {ops : Array Oper} {rest : List Oper} {o : Oper} {a : Act} {w : World} {Q : Exit → Act → World → Prop} (hgd : o.guard = none) (x : Operand) (ho : o.op = .load 22 x)
  (b off : Nat) (n : Int) (hx : a.eval x = .pointer (some ⟨b, off, none⟩)) (hc : w.rangeAt b off (BA n).toList)
  (h : wpList Tryz.prog ops Q rest (a.put o.dst (.agg (BA n))) w) : wpList Tryz.prog ops Q (o :: rest) a w :=
 wpList_load_mid hgd 22 x ho b off hx _ _ hc Tryz.underlying22 rfl (by rw [Array.length_toList, BA_size]; exact info32) (by rw [Array.toArray_toList]; exact h)
theorem ld_limbs {ops : Array Oper} {rest : List Oper} {o : Oper} {a : Act} {w : World} {Q : Exit → Act → World → Prop} (hgd : o.guard = none) (x : Operand) (ho : o.op = .load 142 x)
  (g : Nat) (v0 v1 v2 v3 : Value) (hx : a.eval x = .pointer (some ⟨g, 0, none⟩)) (hg : w.heap[g]? = some (.cells #[v0, v1, v2, v3] 142 (0, 0)))
  (h : wpList Tryz.prog ops Q rest (a.put o.dst (.agg #[v0, v1, v2, v3])) w) : wpList Tryz.prog ops Q (o :: rest) a w :=
 wpList_load_row hgd 142 x ho g hx 142 _ (0, 0) _ hg Tryz.underlying142 rfl (by kernel_rfl) h
theorem take_sum (ns : List Int) (k : Nat) (h : k < ns.length) : (ns.take (k + 1)).sum = (ns.take k).sum + ns[k] := by
 rw [List.take_succ_eq_append_getElem h, List.sum_append]; simp
theorem add_step {ns : List Int} {k : Nat} {Z Q c n : Int} (hz : ∃ c : Int, Z = (ns.take k).sum + c * P255) (e : Q = Z + n + c * P255) (hs : (ns.take (k + 1)).sum = (ns.take k).sum + n) :
  ∃ c : Int, Q = (ns.take (k + 1)).sum + c * P255 := by
 obtain ⟨d, rfl⟩ := hz
 exact ⟨d + c, by rw [e, hs, Int.add_mul]; omega⟩
theorem add_last {ns : List Int} {Z : Int} (hz : ∃ c : Int, Z = (ns.take ns.length).sum + c * P255) : Z % P255 = ns.sum % P255 := by
 obtain ⟨d, rfl⟩ := hz
 rw [List.take_length, Int.mul_comm, Int.add_mul_emod_self_left]
def addF (i : Nat) : Nat := [1, 1].getD i 0
def addT (i : Nat) : Bool := i != 4
set_option maxHeartbeats 1000000 in
theorem add_walk (b off cap : Nat) (ns : List Int) (w : World) (hr : ∀ n ∈ ns, 0 ≤ n ∧ n < W256) (hrows : RowsAt w b off ns) (hb : b < w.heap.size) (hlen : ns.length ≤ 4611686018427387904) :
  Calls Tryz.prog 166 #[.slice (some ⟨b, off, none⟩) ns.length cap] w fun e w' => e = .returned (.agg (BA (ns.sum % P255))) ∧ Below w.heap.size w w' := by
 have HR := Hid.mk hr
 have HW := Hid.mk hrows
 clear hr hrows
 go_enter Tryz.func166, Tryz.ntmps166
 go_wp2
 go_loopw [8] (fun i v => ∃ k : Nat, k ≤ ns.length ∧ i = .int .i64 k ∧ ∃ z0 z1 z2 z3, U64 z0 ∧ U64 z1 ∧ U64 z2 ∧ U64 z3 ∧ (∃ c : Int, V4 z0 z1 z2 z3 = (ns.take k).sum + c * P255) ∧
   v.heap[w.heap.size + 1]? = some (.cells #[.int .u64 z0, .int .u64 z1, .int .u64 z2, .int .u64 z3] 142 (0, 0)) ∧ (∃ z : Array Value, v.heap[w.heap.size]? = some (.cells z 22 (0, 0)) ∧ z.size = 32) ∧ Below w.heap.size w v)
  (fun i _ => ns.length - (intOf i).toNat)
 case atStart =>
  exact ⟨0, Nat.zero_le _, rfl, 0, 0, 0, 0, u64_0, u64_0, u64_0, u64_0, ⟨0, by simp [V4]⟩, heap_alloc2_new w _ _, ⟨_, heap_alloc2_old w _ _, rfl⟩, by repeat first | exact Below.refl _ _ | refine Below.alloc ?_ (by simp <;> omega) _⟩
 case round =>
  obtain ⟨k, hk, rfl, z0, z1, z2, z3, hz0, hz1, hz2, hz3, hz, gs, ⟨z, gz, sz⟩, hB⟩ := hrel
  have HZ := Hid.mk hz
  clear hz
  by_cases hlt : k < ns.length
  ·have hn := HR.out _ (List.getElem_mem hlt)
   have hrow : wr.rangeAt b (off + k * 32) (BA (ns.getD k 0)).toList := fun j v hv => (hB.cell hb).trans (HW.out k hlt j v hv)
   have hgd : ns.getD k 0 = ns[k] := by simp [hlt]
   rw [hgd] at hrow
   have hsn := Hid.mk (take_sum ns k hlt)
   clear hgd
   generalize ns[k] = n at *
   have HROW := Hid.mk hrow
   clear hrow
   go_wp2_with (first | (refine ld_mid rfl _ rfl _ _ n rfl HROW.out ?_) | (refine st_bytes rfl _ _ rfl _ n rfl rfl _ (heap_alloc_new wr _) rfl ?_; intro v1 g1 o1))
   have hsz : w.heap.size + 1 < wr.heap.size := heap_lt gs
   have gs1 := (o1.block _ (by omega)).trans ((Below.heap_alloc wr _ _ hsz).trans gs)
   have gz1 := (o1.block _ (by omega)).trans ((Below.heap_alloc wr _ _ (by omega)).trans gz)
   have hB1 : Below w.heap.size w v1 := Below.trans (hB.alloc (by omega) _) (Only.below (b := wr.heap.size) (B := w.heap.size) o1 (by omega))
   clear o1 gs gz hB
   generalize wr.heap.size = bw at *
   refine wp_region_mixS (fun v => v.heap[w.heap.size + 1]? = some (.cells #[.int .u64 z0, .int .u64 z1, .int .u64 z2, .int .u64 z3] 142 (0, 0)) ∧ v.heap[bw]? = some (.cells (BA n) 22 (0, 0)))
    addF addT [0, 1, 2, 3, 4] rfl (by kernel_rfl) (fun _ _ d _ _ h => by cases d <;> exact h) ⟨gs1, g1⟩ (fun HS => ?_)
   apply mix_look rfl rfl rfl HS
   focus exact fun v h => look_limbs rfl _ _ _ _ _ rfl h.1
   simp only [Act.put, List.setIfInBounds_toArray, List.set_cons_zero, List.set_cons_succ]
   apply mix_look rfl rfl rfl HS
   focus exact fun v h => look_bytes rfl _ _ rfl (BA_size _) h.2
   simp only [Act.put, List.setIfInBounds_toArray, List.set_cons_zero, List.set_cons_succ]
   clear HS g1
   refine mix_act rfl rfl rfl ?_
   intro K hK
   go_simp
   refine (load_any n _).mono ?_
   rintro e v2 ⟨rfl, hb2⟩
   have gs2 := bheap hb2 gs1 (heap_lt gs1)
   have gz2 := bheap hb2 gz1 (heap_lt gz1)
   have hB2 := Below.trans (Below.drew hB1) (hb2.mono hB1.size)
   refine hK _ _ (fun _ h => ⟨bheap hb2 h.1 (heap_lt h.1), bheap hb2 h.2 (heap_lt h.2)⟩) ?_
   clear hK K hb2 gs1 gz1 hB1
   refine mix_act rfl rfl rfl ?_
   intro K hK
   go_simp
   refine (plus_any _ _ _ _ _ _ _ _ _ hz0 hz1 hz2 hz3 (limb_u64 _ _) (limb_u64 _ _) (limb_u64 _ _) (limb_u64 _ _)).mono ?_
   rintro e v3 ⟨q0, q1, q2, q3, hq0, hq1, hq2, hq3, ⟨c, ec⟩, rfl, hb3⟩
   rw [limb_V4 hn.1 hn.2] at ec
   have EC := Hid.mk ec
   clear ec
   have gs3 := bheap hb3 gs2 (heap_lt gs2)
   have gz3 := bheap hb3 gz2 (heap_lt gz2)
   have hB3 := Below.trans hB2 (hb3.mono hB2.size)
   refine hK _ _ (fun _ h => ⟨bheap hb3 h.1 (heap_lt h.1), bheap hb3 h.2 (heap_lt h.2)⟩) ?_
   clear hK K hb3 gs2 gz2 hB2
   refine mix_act rfl rfl rfl ?_
   intro K hK
   refine act_limbs _ _ rfl _ _ _ _ _ rfl rfl _ _ _ _ gs3 ?_
   intro v4 g4 o4
   refine hK _ _ (fun h => by cases h) ?_
   clear hK K
   refine mix_done ?_
   have gz4 := (o4.block _ (by omega)).trans gz3
   have hB4 : Below w.heap.size w v4 := Below.trans hB3 (Only.below (b := w.heap.size + 1) (B := w.heap.size) o4 (by omega))
   clear o4 gs3 gz3 hB3
   go_wp2
   go_roundw
   case rel => exact ⟨k + 1, by omega, by go_num, q0, q1, q2, q3, hq0, hq1, hq2, hq3, add_step HZ.out EC.out hsn.out, g4, ⟨z, gz4, sz⟩, hB4⟩
   case measure => simp [intOf]; omega
  ·have hk2 : k = ns.length := by omega
   subst hk2
   go_wp2_with (refine ld_limbs rfl _ rfl _ _ _ _ _ rfl gs ?_)
   refine (store_any _ _ _ _ _ hz0 hz1 hz2 hz3).mono ?_
   rintro e v2 ⟨rfl, hb2⟩
   have gz2 := bheap hb2 gz (heap_lt gz)
   have hB2 := Below.trans hB (hb2.mono hB.size)
   clear hb2
   go_wp2_with (refine st_bytes rfl _ _ rfl _ _ rfl rfl _ gz2 sz ?_; intro v3 g3 o3)
   rw [add_last HZ.out] at g3
   exact bodyPost_ret (v := .agg (BA (ns.sum % P255))) (results_cell_row rfl _ _ _ _ _ _ _ rfl g3 Tryz.underlying22 rfl (by rw [BA_size]; exact info32)) rfl
    ⟨rfl, Below.trans hB2 (Only.below (b := w.heap.size) (B := w.heap.size) o3 (by omega))⟩
end Go.Proofs.YthghcjepdhkfdaaGreatDoor.Fld

/-
  Own text. What plusProduct of package field answers, for every four words: a contract over the translation.
-/
namespace Go.Proofs.YthghcjepdhkfdaaGreatDoor.Fld
open Go.RowKit Go.Proofs
set_option maxRecDepth 100000
def Prod4 (a b x y lo hi : Int) : Prop := U64 lo ∧ U64 hi ∧ lo + 18446744073709551616 * hi = a + b + x * y
theorem Prod4.lo {a b x y lo hi : Int} (h : Prod4 a b x y lo hi) : U64 lo := h.1
theorem Prod4.hi {a b x y lo hi : Int} (h : Prod4 a b x y lo hi) : U64 hi := h.2.1
theorem mul_bound {x y : Int} (hx : U64 x) (hy : U64 y) : 0 ≤ x * y ∧ x * y ≤ 340282366920938463426481119284349108225 := by
 unfold U64 at hx hy
 refine ⟨Int.mul_nonneg hx.1 hy.1, ?_⟩
 have := Int.mul_le_mul (show x ≤ 18446744073709551615 by omega) (show y ≤ 18446744073709551615 by omega) hy.1 (by omega)
 omega
set_option maxHeartbeats 1000000 in
theorem plusProduct_all {a b x y : Int} (ha : U64 a) (hb : U64 b) (hx : U64 x) (hy : U64 y) : ∃ lo hi, Prod4 a b x y lo hi ∧ ∀ w,
  Calls Tryz.prog 168 #[.int .u64 a, .int .u64 b, .int .u64 x, .int .u64 y] w fun e w' => e = .returned (.tuple #[.int .u64 lo, .int .u64 hi]) ∧ w' = w := by
 have hm := mul_bound hx hy
 have hH : U64 (x * y / 18446744073709551616) := by unfold U64; omega
 have hL : U64 (x * y % 18446744073709551616) := by unfold U64; omega
 obtain ⟨l1, c1, s1, r1⟩ := add64_all hL ha bit0
 obtain ⟨l2, c2, s2, r2⟩ := add64_all s1.lo hb bit0
 have M := Hid.mk (fun w => mul64_any x y w hx hy)
 have hi : Prod4 a b x y l2 (x * y / 18446744073709551616 + c1 + c2) := by
  unfold Sum3 U64 Bit at *
  unfold Prod4 U64
  generalize x * y = z at *
  omega
 have w1 : IntKind.u64.wrap (x * y / 18446744073709551616 + c1) = x * y / 18446744073709551616 + c1 := by
  rw [IntKind.wrap_u64]; unfold Prod4 Sum3 U64 Bit at *; generalize x * y = z at *; omega
 have w2 : IntKind.u64.wrap (x * y / 18446744073709551616 + c1 + c2) = x * y / 18446744073709551616 + c1 + c2 := by
  rw [IntKind.wrap_u64]; unfold Prod4 Sum3 U64 Bit at *; generalize x * y = z at *; omega
 refine ⟨l2, _, hi, fun w => ?_⟩
 clear hi hm hH hL s1 s2
 generalize x * y / 18446744073709551616 = h at *
 generalize x * y % 18446744073709551616 = l at *
 go_enter Tryz.func168, Tryz.ntmps168
 go_wp2_with (go_at_call 195; refine (M.out _).mono ?_; rintro e w' ⟨rfl, rfl⟩)
 go_ret2
 exact ⟨rfl, rfl⟩
end Go.Proofs.YthghcjepdhkfdaaGreatDoor.Fld

/-
  Own text. What times of package field answers, for every two numbers of four words: a contract over the translation.
-/
namespace Go.Proofs.YthghcjepdhkfdaaGreatDoor.Fld
open Go.RowKit Go.Proofs
set_option maxRecDepth 100000
theorem wrap64_1 : IntKind.i64.wrap 1 = 1 := by decide +kernel
theorem wrap64_2 : IntKind.i64.wrap 2 = 2 := by decide +kernel
theorem wrap64_3 : IntKind.i64.wrap 3 = 3 := by decide +kernel
theorem wrap64_4 : IntKind.i64.wrap 4 = 4 := by decide +kernel
theorem wrap64_5 : IntKind.i64.wrap 5 = 5 := by decide +kernel
theorem wrap64_6 : IntKind.i64.wrap 6 = 6 := by decide +kernel
theorem wrap64_7 : IntKind.i64.wrap 7 = 7 := by decide +kernel
attribute [local go_sem] wrap_0 wrap64_1 wrap64_2 wrap64_3 wrap64_4 wrap64_5 wrap64_6 wrap64_7
theorem mul_V4 (x a b c d : Int) : x * V4 a b c d = V4 (x * a) (x * b) (x * c) (x * d) := by unfold V4; grind
theorem V4_mul (x a b c d : Int) : V4 a b c d * x = V4 (a * x) (b * x) (c * x) (d * x) := by unfold V4; grind
theorem row_num {x y0 y1 y2 y3 w0 w1 w2 w3 p0 p1 p2 p3 c0 c1 c2 c3 : Int} (s0 : Prod4 w0 0 x y0 p0 c0) (s1 : Prod4 w1 c0 x y1 p1 c1) (s2 : Prod4 w2 c1 x y2 p2 c2) (s3 : Prod4 w3 c2 x y3 p3 c3) :
  V4 p0 p1 p2 p3 + W256 * c3 = V4 w0 w1 w2 w3 + x * V4 y0 y1 y2 y3 := by
 rw [mul_V4]
 unfold Prod4 at s0 s1 s2 s3
 unfold V4 W256
 omega
theorem times_num {X0 X1 X2 X3 Y p00 p01 p02 p03 c03 p10 p11 p12 p13 c13 p20 p21 p22 p23 c23 p30 p31 p32 p33 c33 : Int}
  (r0 : V4 p00 p01 p02 p03 + W256 * c03 = V4 0 0 0 0 + X0 * Y) (r1 : V4 p10 p11 p12 p13 + W256 * c13 = V4 p01 p02 p03 c03 + X1 * Y)
  (r2 : V4 p20 p21 p22 p23 + W256 * c23 = V4 p11 p12 p13 c13 + X2 * Y) (r3 : V4 p30 p31 p32 p33 + W256 * c33 = V4 p21 p22 p23 c23 + X3 * Y) :
  V4 p00 p10 p20 p30 + W256 * V4 p31 p32 p33 c33 = V4 X0 X1 X2 X3 * Y := by
 rw [V4_mul]
 generalize X0 * Y = a0 at *
 generalize X1 * Y = a1 at *
 generalize X2 * Y = a2 at *
 generalize X3 * Y = a3 at *
 unfold V4 W256 at *
 omega
theorem low_num {a0 a1 a2 a3 b0 b1 b2 b3 l0 l1 l2 l3 d0 d1 d2 d3 : Int} (s0 : Prod4 a0 0 b0 38 l0 d0) (s1 : Prod4 a1 d0 b1 38 l1 d1) (s2 : Prod4 a2 d1 b2 38 l2 d2) (s3 : Prod4 a3 d2 b3 38 l3 d3) :
  V4 l0 l1 l2 l3 + W256 * d3 = V4 a0 a1 a2 a3 + 38 * V4 b0 b1 b2 b3 := by
 unfold Prod4 at s0 s1 s2 s3
 unfold V4 W256
 omega
theorem carry_le {L A B d : Int} (hL : 0 ≤ L ∧ L < W256) (hA : 0 ≤ A ∧ A < W256) (hB : 0 ≤ B ∧ B < W256) (e : L + W256 * d = A + 38 * B) : 0 ≤ d ∧ d ≤ 38 := by
 unfold W256 at *; omega
theorem times_end {Z L A B d XY k : Int} (e1 : A + W256 * B = XY) (e2 : L + W256 * d = A + 38 * B) (e3 : Z = L + W256 * d + k * P255) : Z = XY + (k - 2 * B) * P255 := by
 unfold W256 P255 at *; omega
theorem u64_38 : U64 38 := by unfold U64; omega
def tF9 (i : Nat) : Nat := [2, 2, 2, 2, 2, 2, 2, 1, 2, 2, 2, 1, 2, 2, 1, 0, 2, 2, 2, 2, 0, 2].getD i 2
def tT9 (i : Nat) : Bool := i != 20
def tF18 (i : Nat) : Nat := [2, 2, 2, 1, 2, 2, 2, 2, 1, 0, 2, 2, 2, 2, 0, 2].getD i 2
def tT18 (i : Nat) : Bool := i != 14
theorem heap_a35 (w : World) (A B C D E : Obj) : (((((w.alloc A).alloc B).alloc C).alloc D).alloc E).heap[w.heap.size + 1 + 1]? = some C := by
 rw [Below.heap_alloc _ _ _ (by simp <;> omega), Below.heap_alloc _ _ _ (by simp <;> omega)]
 exact heap_a3 w A B C
set_option maxHeartbeats 8000000 in
theorem times_any (x0 x1 x2 x3 y0 y1 y2 y3 : Int) (w : World) (h0 : U64 x0) (h1 : U64 x1) (h2 : U64 x2) (h3 : U64 x3) (k0 : U64 y0) (k1 : U64 y1) (k2 : U64 y2) (k3 : U64 y3) :
  Calls Tryz.prog 136 #[.agg #[.int .u64 x0, .int .u64 x1, .int .u64 x2, .int .u64 x3], .agg #[.int .u64 y0, .int .u64 y1, .int .u64 y2, .int .u64 y3]] w fun e w' =>
   ∃ z0 z1 z2 z3, U64 z0 ∧ U64 z1 ∧ U64 z2 ∧ U64 z3 ∧ (∃ k : Int, V4 z0 z1 z2 z3 = V4 x0 x1 x2 x3 * V4 y0 y1 y2 y3 + k * P255) ∧
    e = .returned (.agg #[.int .u64 z0, .int .u64 z1, .int .u64 z2, .int .u64 z3]) ∧ Below w.heap.size w w' := by
 obtain ⟨p00, c00, s00, r00⟩ := plusProduct_all u64_0 u64_0 h0 k0
 have R00 := Hid.mk r00
 clear r00
 obtain ⟨p01, c01, s01, r01⟩ := plusProduct_all u64_0 s00.hi h0 k1
 have R01 := Hid.mk r01
 clear r01
 obtain ⟨p02, c02, s02, r02⟩ := plusProduct_all u64_0 s01.hi h0 k2
 have R02 := Hid.mk r02
 clear r02
 obtain ⟨p03, c03, s03, r03⟩ := plusProduct_all u64_0 s02.hi h0 k3
 have R03 := Hid.mk r03
 clear r03
 obtain ⟨p10, c10, s10, r10⟩ := plusProduct_all s01.lo u64_0 h1 k0
 have R10 := Hid.mk r10
 clear r10
 obtain ⟨p11, c11, s11, r11⟩ := plusProduct_all s02.lo s10.hi h1 k1
 have R11 := Hid.mk r11
 clear r11
 obtain ⟨p12, c12, s12, r12⟩ := plusProduct_all s03.lo s11.hi h1 k2
 have R12 := Hid.mk r12
 clear r12
 obtain ⟨p13, c13, s13, r13⟩ := plusProduct_all s03.hi s12.hi h1 k3
 have R13 := Hid.mk r13
 clear r13
 obtain ⟨p20, c20, s20, r20⟩ := plusProduct_all s11.lo u64_0 h2 k0
 have R20 := Hid.mk r20
 clear r20
 obtain ⟨p21, c21, s21, r21⟩ := plusProduct_all s12.lo s20.hi h2 k1
 have R21 := Hid.mk r21
 clear r21
 obtain ⟨p22, c22, s22, r22⟩ := plusProduct_all s13.lo s21.hi h2 k2
 have R22 := Hid.mk r22
 clear r22
 obtain ⟨p23, c23, s23, r23⟩ := plusProduct_all s13.hi s22.hi h2 k3
 have R23 := Hid.mk r23
 clear r23
 obtain ⟨p30, c30, s30, r30⟩ := plusProduct_all s21.lo u64_0 h3 k0
 have R30 := Hid.mk r30
 clear r30
 obtain ⟨p31, c31, s31, r31⟩ := plusProduct_all s22.lo s30.hi h3 k1
 have R31 := Hid.mk r31
 clear r31
 obtain ⟨p32, c32, s32, r32⟩ := plusProduct_all s23.lo s31.hi h3 k2
 have R32 := Hid.mk r32
 clear r32
 obtain ⟨p33, c33, s33, r33⟩ := plusProduct_all s23.hi s32.hi h3 k3
 have R33 := Hid.mk r33
 clear r33
 obtain ⟨l0, d0, t0, q0⟩ := plusProduct_all s00.lo u64_0 s31.lo u64_38
 have T0 := Hid.mk q0
 clear q0
 obtain ⟨l1, d1, t1, q1⟩ := plusProduct_all s10.lo t0.hi s32.lo u64_38
 have T1 := Hid.mk q1
 clear q1
 obtain ⟨l2, d2, t2, q2⟩ := plusProduct_all s20.lo t1.hi s33.lo u64_38
 have T2 := Hid.mk q2
 clear q2
 obtain ⟨l3, d3, t3, q3⟩ := plusProduct_all s30.lo t2.hi s33.hi u64_38
 have T3 := Hid.mk q3
 clear q3
 have e1 := times_num (row_num s00 s01 s02 s03) (row_num s10 s11 s12 s13) (row_num s20 s21 s22 s23) (row_num s30 s31 s32 s33)
 have e2 := low_num t0 t1 t2 t3
 have hc := carry_le (V4_range t0.lo t1.lo t2.lo t3.lo) (V4_range s00.lo s10.lo s20.lo s30.lo) (V4_range s31.lo s32.lo s33.lo s33.hi) e2
 have hc0 := hc.1
 have hc1 := hc.2
 have E1 := Hid.mk e1
 have E2 := Hid.mk e2
 clear e1 e2 hc
 go_enter Tryz.func136, Tryz.ntmps136
 go_wp2
 refine wp_loop_rounds 5 ?_
 rw [rounds_succ]
 go_wp2
 refine wp_loop_rounds 5 ?_
 rw [rounds_succ]
 go_wp2
 refine wp_region_mixS (fun w' => w'.cell? ⟨w.heap.size + 1 + 1 + 1, 0, none⟩ = some (.int .u64 0) ∧ w'.cell? ⟨w.heap.size, 0, none⟩ = some (.int .u64 x0) ∧ w'.cell? ⟨w.heap.size + 1, 0, none⟩ = some (.int .u64 y0))
  tF9 tT9 [0, 1, 2, 3, 4, 5, 6, 7, 8, 9, 10, 11, 12, 13, 14, 15, 16, 17, 18, 19, 20, 21] rfl (by kernel_rfl) (fun _ _ d _ _ h => by cases d <;> exact h) (by refine ⟨?_, ?_, ?_⟩ <;> go_simp) (fun HS => ?_)
 iterate 15
  first
   | (apply mix_pure rfl rfl rfl; focus (intro wq; go_simp; first | done | with_reducible rfl))
   | (apply mix_look rfl rfl rfl HS; focus (intro wq hq; go_simp; first | done | with_reducible rfl))
  simp only [Act.put, List.setIfInBounds_toArray, List.set_cons_zero, List.set_cons_succ]
 refine mix_act rfl rfl rfl ?_
 intro K hK
 go_simp
 refine (R00.out _).mono ?_
 rintro e w' ⟨rfl, rfl⟩
 refine hK _ _ (fun _ h => h) ?_
 clear hK K HS
 iterate 4
  apply mix_pure rfl rfl rfl
  focus (intro wq; go_simp; first | done | with_reducible rfl)
  simp only [Act.put, List.setIfInBounds_toArray, List.set_cons_zero, List.set_cons_succ]
 refine mix_act rfl rfl rfl ?_
 intro K hK
 go_simp
 refine hK _ _ (fun h => by cases h) ?_
 clear hK K
 apply mix_pure rfl rfl rfl
 focus (intro wq; go_simp; first | done | with_reducible rfl)
 simp only [Act.put, List.setIfInBounds_toArray, List.set_cons_zero, List.set_cons_succ]
 refine mix_done ?_
 go_wp2
 rw [rounds_succ]
 go_wp2
 refine wp_region_mixS (fun w' => w'.cell? ⟨w.heap.size + 1 + 1 + 1, 1, none⟩ = some (.int .u64 0) ∧ w'.cell? ⟨w.heap.size, 0, none⟩ = some (.int .u64 x0) ∧ w'.cell? ⟨w.heap.size + 1, 1, none⟩ = some (.int .u64 y1))
  tF9 tT9 [0, 1, 2, 3, 4, 5, 6, 7, 8, 9, 10, 11, 12, 13, 14, 15, 16, 17, 18, 19, 20, 21] rfl (by kernel_rfl) (fun _ _ d _ _ h => by cases d <;> exact h) (by refine ⟨?_, ?_, ?_⟩ <;> go_simp) (fun HS => ?_)
 iterate 15
  first
   | (apply mix_pure rfl rfl rfl; focus (intro wq; go_simp; first | done | with_reducible rfl))
   | (apply mix_look rfl rfl rfl HS; focus (intro wq hq; go_simp; first | done | with_reducible rfl))
  simp only [Act.put, List.setIfInBounds_toArray, List.set_cons_zero, List.set_cons_succ]
 refine mix_act rfl rfl rfl ?_
 intro K hK
 go_simp
 refine (R01.out _).mono ?_
 rintro e w' ⟨rfl, rfl⟩
 refine hK _ _ (fun _ h => h) ?_
 clear hK K HS
 iterate 4
  apply mix_pure rfl rfl rfl
  focus (intro wq; go_simp; first | done | with_reducible rfl)
  simp only [Act.put, List.setIfInBounds_toArray, List.set_cons_zero, List.set_cons_succ]
 refine mix_act rfl rfl rfl ?_
 intro K hK
 go_simp
 refine hK _ _ (fun h => by cases h) ?_
 clear hK K
 apply mix_pure rfl rfl rfl
 focus (intro wq; go_simp; first | done | with_reducible rfl)
 simp only [Act.put, List.setIfInBounds_toArray, List.set_cons_zero, List.set_cons_succ]
 refine mix_done ?_
 go_wp2
 rw [rounds_succ]
 go_wp2
 refine wp_region_mixS (fun w' => w'.cell? ⟨w.heap.size + 1 + 1 + 1, 2, none⟩ = some (.int .u64 0) ∧ w'.cell? ⟨w.heap.size, 0, none⟩ = some (.int .u64 x0) ∧ w'.cell? ⟨w.heap.size + 1, 2, none⟩ = some (.int .u64 y2))
  tF9 tT9 [0, 1, 2, 3, 4, 5, 6, 7, 8, 9, 10, 11, 12, 13, 14, 15, 16, 17, 18, 19, 20, 21] rfl (by kernel_rfl) (fun _ _ d _ _ h => by cases d <;> exact h) (by refine ⟨?_, ?_, ?_⟩ <;> go_simp) (fun HS => ?_)
 iterate 15
  first
   | (apply mix_pure rfl rfl rfl; focus (intro wq; go_simp; first | done | with_reducible rfl))
   | (apply mix_look rfl rfl rfl HS; focus (intro wq hq; go_simp; first | done | with_reducible rfl))
  simp only [Act.put, List.setIfInBounds_toArray, List.set_cons_zero, List.set_cons_succ]
 refine mix_act rfl rfl rfl ?_
 intro K hK
 go_simp
 refine (R02.out _).mono ?_
 rintro e w' ⟨rfl, rfl⟩
 refine hK _ _ (fun _ h => h) ?_
 clear hK K HS
 iterate 4
  apply mix_pure rfl rfl rfl
  focus (intro wq; go_simp; first | done | with_reducible rfl)
  simp only [Act.put, List.setIfInBounds_toArray, List.set_cons_zero, List.set_cons_succ]
 refine mix_act rfl rfl rfl ?_
 intro K hK
 go_simp
 refine hK _ _ (fun h => by cases h) ?_
 clear hK K
 apply mix_pure rfl rfl rfl
 focus (intro wq; go_simp; first | done | with_reducible rfl)
 simp only [Act.put, List.setIfInBounds_toArray, List.set_cons_zero, List.set_cons_succ]
 refine mix_done ?_
 go_wp2
 rw [rounds_succ]
 go_wp2
 refine wp_region_mixS (fun w' => w'.cell? ⟨w.heap.size + 1 + 1 + 1, 3, none⟩ = some (.int .u64 0) ∧ w'.cell? ⟨w.heap.size, 0, none⟩ = some (.int .u64 x0) ∧ w'.cell? ⟨w.heap.size + 1, 3, none⟩ = some (.int .u64 y3))
  tF9 tT9 [0, 1, 2, 3, 4, 5, 6, 7, 8, 9, 10, 11, 12, 13, 14, 15, 16, 17, 18, 19, 20, 21] rfl (by kernel_rfl) (fun _ _ d _ _ h => by cases d <;> exact h) (by refine ⟨?_, ?_, ?_⟩ <;> go_simp) (fun HS => ?_)
 iterate 15
  first
   | (apply mix_pure rfl rfl rfl; focus (intro wq; go_simp; first | done | with_reducible rfl))
   | (apply mix_look rfl rfl rfl HS; focus (intro wq hq; go_simp; first | done | with_reducible rfl))
  simp only [Act.put, List.setIfInBounds_toArray, List.set_cons_zero, List.set_cons_succ]
 refine mix_act rfl rfl rfl ?_
 intro K hK
 go_simp
 refine (R03.out _).mono ?_
 rintro e w' ⟨rfl, rfl⟩
 refine hK _ _ (fun _ h => h) ?_
 clear hK K HS
 iterate 4
  apply mix_pure rfl rfl rfl
  focus (intro wq; go_simp; first | done | with_reducible rfl)
  simp only [Act.put, List.setIfInBounds_toArray, List.set_cons_zero, List.set_cons_succ]
 refine mix_act rfl rfl rfl ?_
 intro K hK
 go_simp
 refine hK _ _ (fun h => by cases h) ?_
 clear hK K
 apply mix_pure rfl rfl rfl
 focus (intro wq; go_simp; first | done | with_reducible rfl)
 simp only [Act.put, List.setIfInBounds_toArray, List.set_cons_zero, List.set_cons_succ]
 refine mix_done ?_
 go_wp2
 rw [rounds_succ]
 go_wp2
 rw [rounds_succ]
 go_wp2
 refine wp_loop_rounds 5 ?_
 rw [rounds_succ]
 go_wp2
 refine wp_region_mixS (fun w' => w'.cell? ⟨w.heap.size + 1 + 1 + 1, 1, none⟩ = some (.int .u64 p01) ∧ w'.cell? ⟨w.heap.size, 1, none⟩ = some (.int .u64 x1) ∧ w'.cell? ⟨w.heap.size + 1, 0, none⟩ = some (.int .u64 y0))
  tF9 tT9 [0, 1, 2, 3, 4, 5, 6, 7, 8, 9, 10, 11, 12, 13, 14, 15, 16, 17, 18, 19, 20, 21] rfl (by kernel_rfl) (fun _ _ d _ _ h => by cases d <;> exact h) (by refine ⟨?_, ?_, ?_⟩ <;> go_simp) (fun HS => ?_)
 iterate 15
  first
   | (apply mix_pure rfl rfl rfl; focus (intro wq; go_simp; first | done | with_reducible rfl))
   | (apply mix_look rfl rfl rfl HS; focus (intro wq hq; go_simp; first | done | with_reducible rfl))
  simp only [Act.put, List.setIfInBounds_toArray, List.set_cons_zero, List.set_cons_succ]
 refine mix_act rfl rfl rfl ?_
 intro K hK
 go_simp
 refine (R10.out _).mono ?_
 rintro e w' ⟨rfl, rfl⟩
 refine hK _ _ (fun _ h => h) ?_
 clear hK K HS
 iterate 4
  apply mix_pure rfl rfl rfl
  focus (intro wq; go_simp; first | done | with_reducible rfl)
  simp only [Act.put, List.setIfInBounds_toArray, List.set_cons_zero, List.set_cons_succ]
 refine mix_act rfl rfl rfl ?_
 intro K hK
 go_simp
 refine hK _ _ (fun h => by cases h) ?_
 clear hK K
 apply mix_pure rfl rfl rfl
 focus (intro wq; go_simp; first | done | with_reducible rfl)
 simp only [Act.put, List.setIfInBounds_toArray, List.set_cons_zero, List.set_cons_succ]
 refine mix_done ?_
 go_wp2
 rw [rounds_succ]
 go_wp2
 refine wp_region_mixS (fun w' => w'.cell? ⟨w.heap.size + 1 + 1 + 1, 2, none⟩ = some (.int .u64 p02) ∧ w'.cell? ⟨w.heap.size, 1, none⟩ = some (.int .u64 x1) ∧ w'.cell? ⟨w.heap.size + 1, 1, none⟩ = some (.int .u64 y1))
  tF9 tT9 [0, 1, 2, 3, 4, 5, 6, 7, 8, 9, 10, 11, 12, 13, 14, 15, 16, 17, 18, 19, 20, 21] rfl (by kernel_rfl) (fun _ _ d _ _ h => by cases d <;> exact h) (by refine ⟨?_, ?_, ?_⟩ <;> go_simp) (fun HS => ?_)
 iterate 15
  first
   | (apply mix_pure rfl rfl rfl; focus (intro wq; go_simp; first | done | with_reducible rfl))
   | (apply mix_look rfl rfl rfl HS; focus (intro wq hq; go_simp; first | done | with_reducible rfl))
  simp only [Act.put, List.setIfInBounds_toArray, List.set_cons_zero, List.set_cons_succ]
 refine mix_act rfl rfl rfl ?_
 intro K hK
 go_simp
 refine (R11.out _).mono ?_
 rintro e w' ⟨rfl, rfl⟩
 refine hK _ _ (fun _ h => h) ?_
 clear hK K HS
 iterate 4
  apply mix_pure rfl rfl rfl
  focus (intro wq; go_simp; first | done | with_reducible rfl)
  simp only [Act.put, List.setIfInBounds_toArray, List.set_cons_zero, List.set_cons_succ]
 refine mix_act rfl rfl rfl ?_
 intro K hK
 go_simp
 refine hK _ _ (fun h => by cases h) ?_
 clear hK K
 apply mix_pure rfl rfl rfl
 focus (intro wq; go_simp; first | done | with_reducible rfl)
 simp only [Act.put, List.setIfInBounds_toArray, List.set_cons_zero, List.set_cons_succ]
 refine mix_done ?_
 go_wp2
 rw [rounds_succ]
 go_wp2
 refine wp_region_mixS (fun w' => w'.cell? ⟨w.heap.size + 1 + 1 + 1, 3, none⟩ = some (.int .u64 p03) ∧ w'.cell? ⟨w.heap.size, 1, none⟩ = some (.int .u64 x1) ∧ w'.cell? ⟨w.heap.size + 1, 2, none⟩ = some (.int .u64 y2))
  tF9 tT9 [0, 1, 2, 3, 4, 5, 6, 7, 8, 9, 10, 11, 12, 13, 14, 15, 16, 17, 18, 19, 20, 21] rfl (by kernel_rfl) (fun _ _ d _ _ h => by cases d <;> exact h) (by refine ⟨?_, ?_, ?_⟩ <;> go_simp) (fun HS => ?_)
 iterate 15
  first
   | (apply mix_pure rfl rfl rfl; focus (intro wq; go_simp; first | done | with_reducible rfl))
   | (apply mix_look rfl rfl rfl HS; focus (intro wq hq; go_simp; first | done | with_reducible rfl))
  simp only [Act.put, List.setIfInBounds_toArray, List.set_cons_zero, List.set_cons_succ]
 refine mix_act rfl rfl rfl ?_
 intro K hK
 go_simp
 refine (R12.out _).mono ?_
 rintro e w' ⟨rfl, rfl⟩
 refine hK _ _ (fun _ h => h) ?_
 clear hK K HS
 iterate 4
  apply mix_pure rfl rfl rfl
  focus (intro wq; go_simp; first | done | with_reducible rfl)
  simp only [Act.put, List.setIfInBounds_toArray, List.set_cons_zero, List.set_cons_succ]
 refine mix_act rfl rfl rfl ?_
 intro K hK
 go_simp
 refine hK _ _ (fun h => by cases h) ?_
 clear hK K
 apply mix_pure rfl rfl rfl
 focus (intro wq; go_simp; first | done | with_reducible rfl)
 simp only [Act.put, List.setIfInBounds_toArray, List.set_cons_zero, List.set_cons_succ]
 refine mix_done ?_
 go_wp2
 rw [rounds_succ]
 go_wp2
 refine wp_region_mixS (fun w' => w'.cell? ⟨w.heap.size + 1 + 1 + 1, 4, none⟩ = some (.int .u64 c03) ∧ w'.cell? ⟨w.heap.size, 1, none⟩ = some (.int .u64 x1) ∧ w'.cell? ⟨w.heap.size + 1, 3, none⟩ = some (.int .u64 y3))
  tF9 tT9 [0, 1, 2, 3, 4, 5, 6, 7, 8, 9, 10, 11, 12, 13, 14, 15, 16, 17, 18, 19, 20, 21] rfl (by kernel_rfl) (fun _ _ d _ _ h => by cases d <;> exact h) (by refine ⟨?_, ?_, ?_⟩ <;> go_simp) (fun HS => ?_)
 iterate 15
  first
   | (apply mix_pure rfl rfl rfl; focus (intro wq; go_simp; first | done | with_reducible rfl))
   | (apply mix_look rfl rfl rfl HS; focus (intro wq hq; go_simp; first | done | with_reducible rfl))
  simp only [Act.put, List.setIfInBounds_toArray, List.set_cons_zero, List.set_cons_succ]
 refine mix_act rfl rfl rfl ?_
 intro K hK
 go_simp
 refine (R13.out _).mono ?_
 rintro e w' ⟨rfl, rfl⟩
 refine hK _ _ (fun _ h => h) ?_
 clear hK K HS
 iterate 4
  apply mix_pure rfl rfl rfl
  focus (intro wq; go_simp; first | done | with_reducible rfl)
  simp only [Act.put, List.setIfInBounds_toArray, List.set_cons_zero, List.set_cons_succ]
 refine mix_act rfl rfl rfl ?_
 intro K hK
 go_simp
 refine hK _ _ (fun h => by cases h) ?_
 clear hK K
 apply mix_pure rfl rfl rfl
 focus (intro wq; go_simp; first | done | with_reducible rfl)
 simp only [Act.put, List.setIfInBounds_toArray, List.set_cons_zero, List.set_cons_succ]
 refine mix_done ?_
 go_wp2
 rw [rounds_succ]
 go_wp2
 rw [rounds_succ]
 go_wp2
 refine wp_loop_rounds 5 ?_
 rw [rounds_succ]
 go_wp2
 refine wp_region_mixS (fun w' => w'.cell? ⟨w.heap.size + 1 + 1 + 1, 2, none⟩ = some (.int .u64 p11) ∧ w'.cell? ⟨w.heap.size, 2, none⟩ = some (.int .u64 x2) ∧ w'.cell? ⟨w.heap.size + 1, 0, none⟩ = some (.int .u64 y0))
  tF9 tT9 [0, 1, 2, 3, 4, 5, 6, 7, 8, 9, 10, 11, 12, 13, 14, 15, 16, 17, 18, 19, 20, 21] rfl (by kernel_rfl) (fun _ _ d _ _ h => by cases d <;> exact h) (by refine ⟨?_, ?_, ?_⟩ <;> go_simp) (fun HS => ?_)
 iterate 15
  first
   | (apply mix_pure rfl rfl rfl; focus (intro wq; go_simp; first | done | with_reducible rfl))
   | (apply mix_look rfl rfl rfl HS; focus (intro wq hq; go_simp; first | done | with_reducible rfl))
  simp only [Act.put, List.setIfInBounds_toArray, List.set_cons_zero, List.set_cons_succ]
 refine mix_act rfl rfl rfl ?_
 intro K hK
 go_simp
 refine (R20.out _).mono ?_
 rintro e w' ⟨rfl, rfl⟩
 refine hK _ _ (fun _ h => h) ?_
 clear hK K HS
 iterate 4
  apply mix_pure rfl rfl rfl
  focus (intro wq; go_simp; first | done | with_reducible rfl)
  simp only [Act.put, List.setIfInBounds_toArray, List.set_cons_zero, List.set_cons_succ]
 refine mix_act rfl rfl rfl ?_
 intro K hK
 go_simp
 refine hK _ _ (fun h => by cases h) ?_
 clear hK K
 apply mix_pure rfl rfl rfl
 focus (intro wq; go_simp; first | done | with_reducible rfl)
 simp only [Act.put, List.setIfInBounds_toArray, List.set_cons_zero, List.set_cons_succ]
 refine mix_done ?_
 go_wp2
 rw [rounds_succ]
 go_wp2
 refine wp_region_mixS (fun w' => w'.cell? ⟨w.heap.size + 1 + 1 + 1, 3, none⟩ = some (.int .u64 p12) ∧ w'.cell? ⟨w.heap.size, 2, none⟩ = some (.int .u64 x2) ∧ w'.cell? ⟨w.heap.size + 1, 1, none⟩ = some (.int .u64 y1))
  tF9 tT9 [0, 1, 2, 3, 4, 5, 6, 7, 8, 9, 10, 11, 12, 13, 14, 15, 16, 17, 18, 19, 20, 21] rfl (by kernel_rfl) (fun _ _ d _ _ h => by cases d <;> exact h) (by refine ⟨?_, ?_, ?_⟩ <;> go_simp) (fun HS => ?_)
 iterate 15
  first
   | (apply mix_pure rfl rfl rfl; focus (intro wq; go_simp; first | done | with_reducible rfl))
   | (apply mix_look rfl rfl rfl HS; focus (intro wq hq; go_simp; first | done | with_reducible rfl))
  simp only [Act.put, List.setIfInBounds_toArray, List.set_cons_zero, List.set_cons_succ]
 refine mix_act rfl rfl rfl ?_
 intro K hK
 go_simp
 refine (R21.out _).mono ?_
 rintro e w' ⟨rfl, rfl⟩
 refine hK _ _ (fun _ h => h) ?_
 clear hK K HS
 iterate 4
  apply mix_pure rfl rfl rfl
  focus (intro wq; go_simp; first | done | with_reducible rfl)
  simp only [Act.put, List.setIfInBounds_toArray, List.set_cons_zero, List.set_cons_succ]
 refine mix_act rfl rfl rfl ?_
 intro K hK
 go_simp
 refine hK _ _ (fun h => by cases h) ?_
 clear hK K
 apply mix_pure rfl rfl rfl
 focus (intro wq; go_simp; first | done | with_reducible rfl)
 simp only [Act.put, List.setIfInBounds_toArray, List.set_cons_zero, List.set_cons_succ]
 refine mix_done ?_
 go_wp2
 rw [rounds_succ]
 go_wp2
 refine wp_region_mixS (fun w' => w'.cell? ⟨w.heap.size + 1 + 1 + 1, 4, none⟩ = some (.int .u64 p13) ∧ w'.cell? ⟨w.heap.size, 2, none⟩ = some (.int .u64 x2) ∧ w'.cell? ⟨w.heap.size + 1, 2, none⟩ = some (.int .u64 y2))
  tF9 tT9 [0, 1, 2, 3, 4, 5, 6, 7, 8, 9, 10, 11, 12, 13, 14, 15, 16, 17, 18, 19, 20, 21] rfl (by kernel_rfl) (fun _ _ d _ _ h => by cases d <;> exact h) (by refine ⟨?_, ?_, ?_⟩ <;> go_simp) (fun HS => ?_)
 iterate 15
  first
   | (apply mix_pure rfl rfl rfl; focus (intro wq; go_simp; first | done | with_reducible rfl))
   | (apply mix_look rfl rfl rfl HS; focus (intro wq hq; go_simp; first | done | with_reducible rfl))
  simp only [Act.put, List.setIfInBounds_toArray, List.set_cons_zero, List.set_cons_succ]
 refine mix_act rfl rfl rfl ?_
 intro K hK
 go_simp
 refine (R22.out _).mono ?_
 rintro e w' ⟨rfl, rfl⟩
 refine hK _ _ (fun _ h => h) ?_
 clear hK K HS
 iterate 4
  apply mix_pure rfl rfl rfl
  focus (intro wq; go_simp; first | done | with_reducible rfl)
  simp only [Act.put, List.setIfInBounds_toArray, List.set_cons_zero, List.set_cons_succ]
 refine mix_act rfl rfl rfl ?_
 intro K hK
 go_simp
 refine hK _ _ (fun h => by cases h) ?_
 clear hK K
 apply mix_pure rfl rfl rfl
 focus (intro wq; go_simp; first | done | with_reducible rfl)
 simp only [Act.put, List.setIfInBounds_toArray, List.set_cons_zero, List.set_cons_succ]
 refine mix_done ?_
 go_wp2
 rw [rounds_succ]
 go_wp2
 refine wp_region_mixS (fun w' => w'.cell? ⟨w.heap.size + 1 + 1 + 1, 5, none⟩ = some (.int .u64 c13) ∧ w'.cell? ⟨w.heap.size, 2, none⟩ = some (.int .u64 x2) ∧ w'.cell? ⟨w.heap.size + 1, 3, none⟩ = some (.int .u64 y3))
  tF9 tT9 [0, 1, 2, 3, 4, 5, 6, 7, 8, 9, 10, 11, 12, 13, 14, 15, 16, 17, 18, 19, 20, 21] rfl (by kernel_rfl) (fun _ _ d _ _ h => by cases d <;> exact h) (by refine ⟨?_, ?_, ?_⟩ <;> go_simp) (fun HS => ?_)
 iterate 15
  first
   | (apply mix_pure rfl rfl rfl; focus (intro wq; go_simp; first | done | with_reducible rfl))
   | (apply mix_look rfl rfl rfl HS; focus (intro wq hq; go_simp; first | done | with_reducible rfl))
  simp only [Act.put, List.setIfInBounds_toArray, List.set_cons_zero, List.set_cons_succ]
 refine mix_act rfl rfl rfl ?_
 intro K hK
 go_simp
 refine (R23.out _).mono ?_
 rintro e w' ⟨rfl, rfl⟩
 refine hK _ _ (fun _ h => h) ?_
 clear hK K HS
 iterate 4
  apply mix_pure rfl rfl rfl
  focus (intro wq; go_simp; first | done | with_reducible rfl)
  simp only [Act.put, List.setIfInBounds_toArray, List.set_cons_zero, List.set_cons_succ]
 refine mix_act rfl rfl rfl ?_
 intro K hK
 go_simp
 refine hK _ _ (fun h => by cases h) ?_
 clear hK K
 apply mix_pure rfl rfl rfl
 focus (intro wq; go_simp; first | done | with_reducible rfl)
 simp only [Act.put, List.setIfInBounds_toArray, List.set_cons_zero, List.set_cons_succ]
 refine mix_done ?_
 go_wp2
 rw [rounds_succ]
 go_wp2
 rw [rounds_succ]
 go_wp2
 refine wp_loop_rounds 5 ?_
 rw [rounds_succ]
 go_wp2
 refine wp_region_mixS (fun w' => w'.cell? ⟨w.heap.size + 1 + 1 + 1, 3, none⟩ = some (.int .u64 p21) ∧ w'.cell? ⟨w.heap.size, 3, none⟩ = some (.int .u64 x3) ∧ w'.cell? ⟨w.heap.size + 1, 0, none⟩ = some (.int .u64 y0))
  tF9 tT9 [0, 1, 2, 3, 4, 5, 6, 7, 8, 9, 10, 11, 12, 13, 14, 15, 16, 17, 18, 19, 20, 21] rfl (by kernel_rfl) (fun _ _ d _ _ h => by cases d <;> exact h) (by refine ⟨?_, ?_, ?_⟩ <;> go_simp) (fun HS => ?_)
 iterate 15
  first
   | (apply mix_pure rfl rfl rfl; focus (intro wq; go_simp; first | done | with_reducible rfl))
   | (apply mix_look rfl rfl rfl HS; focus (intro wq hq; go_simp; first | done | with_reducible rfl))
  simp only [Act.put, List.setIfInBounds_toArray, List.set_cons_zero, List.set_cons_succ]
 refine mix_act rfl rfl rfl ?_
 intro K hK
 go_simp
 refine (R30.out _).mono ?_
 rintro e w' ⟨rfl, rfl⟩
 refine hK _ _ (fun _ h => h) ?_
 clear hK K HS
 iterate 4
  apply mix_pure rfl rfl rfl
  focus (intro wq; go_simp; first | done | with_reducible rfl)
  simp only [Act.put, List.setIfInBounds_toArray, List.set_cons_zero, List.set_cons_succ]
 refine mix_act rfl rfl rfl ?_
 intro K hK
 go_simp
 refine hK _ _ (fun h => by cases h) ?_
 clear hK K
 apply mix_pure rfl rfl rfl
 focus (intro wq; go_simp; first | done | with_reducible rfl)
 simp only [Act.put, List.setIfInBounds_toArray, List.set_cons_zero, List.set_cons_succ]
 refine mix_done ?_
 go_wp2
 rw [rounds_succ]
 go_wp2
 refine wp_region_mixS (fun w' => w'.cell? ⟨w.heap.size + 1 + 1 + 1, 4, none⟩ = some (.int .u64 p22) ∧ w'.cell? ⟨w.heap.size, 3, none⟩ = some (.int .u64 x3) ∧ w'.cell? ⟨w.heap.size + 1, 1, none⟩ = some (.int .u64 y1))
  tF9 tT9 [0, 1, 2, 3, 4, 5, 6, 7, 8, 9, 10, 11, 12, 13, 14, 15, 16, 17, 18, 19, 20, 21] rfl (by kernel_rfl) (fun _ _ d _ _ h => by cases d <;> exact h) (by refine ⟨?_, ?_, ?_⟩ <;> go_simp) (fun HS => ?_)
 iterate 15
  first
   | (apply mix_pure rfl rfl rfl; focus (intro wq; go_simp; first | done | with_reducible rfl))
   | (apply mix_look rfl rfl rfl HS; focus (intro wq hq; go_simp; first | done | with_reducible rfl))
  simp only [Act.put, List.setIfInBounds_toArray, List.set_cons_zero, List.set_cons_succ]
 refine mix_act rfl rfl rfl ?_
 intro K hK
 go_simp
 refine (R31.out _).mono ?_
 rintro e w' ⟨rfl, rfl⟩
 refine hK _ _ (fun _ h => h) ?_
 clear hK K HS
 iterate 4
  apply mix_pure rfl rfl rfl
  focus (intro wq; go_simp; first | done | with_reducible rfl)
  simp only [Act.put, List.setIfInBounds_toArray, List.set_cons_zero, List.set_cons_succ]
 refine mix_act rfl rfl rfl ?_
 intro K hK
 go_simp
 refine hK _ _ (fun h => by cases h) ?_
 clear hK K
 apply mix_pure rfl rfl rfl
 focus (intro wq; go_simp; first | done | with_reducible rfl)
 simp only [Act.put, List.setIfInBounds_toArray, List.set_cons_zero, List.set_cons_succ]
 refine mix_done ?_
 go_wp2
 rw [rounds_succ]
 go_wp2
 refine wp_region_mixS (fun w' => w'.cell? ⟨w.heap.size + 1 + 1 + 1, 5, none⟩ = some (.int .u64 p23) ∧ w'.cell? ⟨w.heap.size, 3, none⟩ = some (.int .u64 x3) ∧ w'.cell? ⟨w.heap.size + 1, 2, none⟩ = some (.int .u64 y2))
  tF9 tT9 [0, 1, 2, 3, 4, 5, 6, 7, 8, 9, 10, 11, 12, 13, 14, 15, 16, 17, 18, 19, 20, 21] rfl (by kernel_rfl) (fun _ _ d _ _ h => by cases d <;> exact h) (by refine ⟨?_, ?_, ?_⟩ <;> go_simp) (fun HS => ?_)
 iterate 15
  first
   | (apply mix_pure rfl rfl rfl; focus (intro wq; go_simp; first | done | with_reducible rfl))
   | (apply mix_look rfl rfl rfl HS; focus (intro wq hq; go_simp; first | done | with_reducible rfl))
  simp only [Act.put, List.setIfInBounds_toArray, List.set_cons_zero, List.set_cons_succ]
 refine mix_act rfl rfl rfl ?_
 intro K hK
 go_simp
 refine (R32.out _).mono ?_
 rintro e w' ⟨rfl, rfl⟩
 refine hK _ _ (fun _ h => h) ?_
 clear hK K HS
 iterate 4
  apply mix_pure rfl rfl rfl
  focus (intro wq; go_simp; first | done | with_reducible rfl)
  simp only [Act.put, List.setIfInBounds_toArray, List.set_cons_zero, List.set_cons_succ]
 refine mix_act rfl rfl rfl ?_
 intro K hK
 go_simp
 refine hK _ _ (fun h => by cases h) ?_
 clear hK K
 apply mix_pure rfl rfl rfl
 focus (intro wq; go_simp; first | done | with_reducible rfl)
 simp only [Act.put, List.setIfInBounds_toArray, List.set_cons_zero, List.set_cons_succ]
 refine mix_done ?_
 go_wp2
 rw [rounds_succ]
 go_wp2
 refine wp_region_mixS (fun w' => w'.cell? ⟨w.heap.size + 1 + 1 + 1, 6, none⟩ = some (.int .u64 c23) ∧ w'.cell? ⟨w.heap.size, 3, none⟩ = some (.int .u64 x3) ∧ w'.cell? ⟨w.heap.size + 1, 3, none⟩ = some (.int .u64 y3))
  tF9 tT9 [0, 1, 2, 3, 4, 5, 6, 7, 8, 9, 10, 11, 12, 13, 14, 15, 16, 17, 18, 19, 20, 21] rfl (by kernel_rfl) (fun _ _ d _ _ h => by cases d <;> exact h) (by refine ⟨?_, ?_, ?_⟩ <;> go_simp) (fun HS => ?_)
 iterate 15
  first
   | (apply mix_pure rfl rfl rfl; focus (intro wq; go_simp; first | done | with_reducible rfl))
   | (apply mix_look rfl rfl rfl HS; focus (intro wq hq; go_simp; first | done | with_reducible rfl))
  simp only [Act.put, List.setIfInBounds_toArray, List.set_cons_zero, List.set_cons_succ]
 refine mix_act rfl rfl rfl ?_
 intro K hK
 go_simp
 refine (R33.out _).mono ?_
 rintro e w' ⟨rfl, rfl⟩
 refine hK _ _ (fun _ h => h) ?_
 clear hK K HS
 iterate 4
  apply mix_pure rfl rfl rfl
  focus (intro wq; go_simp; first | done | with_reducible rfl)
  simp only [Act.put, List.setIfInBounds_toArray, List.set_cons_zero, List.set_cons_succ]
 refine mix_act rfl rfl rfl ?_
 intro K hK
 go_simp
 refine hK _ _ (fun h => by cases h) ?_
 clear hK K
 apply mix_pure rfl rfl rfl
 focus (intro wq; go_simp; first | done | with_reducible rfl)
 simp only [Act.put, List.setIfInBounds_toArray, List.set_cons_zero, List.set_cons_succ]
 refine mix_done ?_
 go_wp2
 rw [rounds_succ]
 go_wp2
 rw [rounds_succ]
 go_wp2
 refine wp_loop_rounds 5 ?_
 rw [rounds_succ]
 go_wp2
 refine wp_region_mixS (fun w' => w'.cell? ⟨w.heap.size + 1 + 1 + 1, 0, none⟩ = some (.int .u64 p00) ∧ w'.cell? ⟨w.heap.size + 1 + 1 + 1, 4, none⟩ = some (.int .u64 p31))
  tF18 tT18 [0, 1, 2, 3, 4, 5, 6, 7, 8, 9, 10, 11, 12, 13, 14, 15] rfl (by kernel_rfl) (fun _ _ d _ _ h => by cases d <;> exact h) (by refine ⟨?_, ?_⟩ <;> go_simp) (fun HS => ?_)
 iterate 9
  first
   | (apply mix_pure rfl rfl rfl; focus (intro wq; go_simp; first | done | with_reducible rfl))
   | (apply mix_look rfl rfl rfl HS; focus (intro wq hq; go_simp; first | done | with_reducible rfl))
  simp only [Act.put, List.setIfInBounds_toArray, List.set_cons_zero, List.set_cons_succ]
 refine mix_act rfl rfl rfl ?_
 intro K hK
 go_simp
 refine (T0.out _).mono ?_
 rintro e w' ⟨rfl, rfl⟩
 refine hK _ _ (fun _ h => h) ?_
 clear hK K HS
 iterate 4
  apply mix_pure rfl rfl rfl
  focus (intro wq; go_simp; first | done | with_reducible rfl)
  simp only [Act.put, List.setIfInBounds_toArray, List.set_cons_zero, List.set_cons_succ]
 refine mix_act rfl rfl rfl ?_
 intro K hK
 go_simp
 refine hK _ _ (fun h => by cases h) ?_
 clear hK K
 apply mix_pure rfl rfl rfl
 focus (intro wq; go_simp; first | done | with_reducible rfl)
 simp only [Act.put, List.setIfInBounds_toArray, List.set_cons_zero, List.set_cons_succ]
 refine mix_done ?_
 go_wp2
 rw [rounds_succ]
 go_wp2
 refine wp_region_mixS (fun w' => w'.cell? ⟨w.heap.size + 1 + 1 + 1, 1, none⟩ = some (.int .u64 p10) ∧ w'.cell? ⟨w.heap.size + 1 + 1 + 1, 5, none⟩ = some (.int .u64 p32))
  tF18 tT18 [0, 1, 2, 3, 4, 5, 6, 7, 8, 9, 10, 11, 12, 13, 14, 15] rfl (by kernel_rfl) (fun _ _ d _ _ h => by cases d <;> exact h) (by refine ⟨?_, ?_⟩ <;> go_simp) (fun HS => ?_)
 iterate 9
  first
   | (apply mix_pure rfl rfl rfl; focus (intro wq; go_simp; first | done | with_reducible rfl))
   | (apply mix_look rfl rfl rfl HS; focus (intro wq hq; go_simp; first | done | with_reducible rfl))
  simp only [Act.put, List.setIfInBounds_toArray, List.set_cons_zero, List.set_cons_succ]
 refine mix_act rfl rfl rfl ?_
 intro K hK
 go_simp
 refine (T1.out _).mono ?_
 rintro e w' ⟨rfl, rfl⟩
 refine hK _ _ (fun _ h => h) ?_
 clear hK K HS
 iterate 4
  apply mix_pure rfl rfl rfl
  focus (intro wq; go_simp; first | done | with_reducible rfl)
  simp only [Act.put, List.setIfInBounds_toArray, List.set_cons_zero, List.set_cons_succ]
 refine mix_act rfl rfl rfl ?_
 intro K hK
 go_simp
 refine hK _ _ (fun h => by cases h) ?_
 clear hK K
 apply mix_pure rfl rfl rfl
 focus (intro wq; go_simp; first | done | with_reducible rfl)
 simp only [Act.put, List.setIfInBounds_toArray, List.set_cons_zero, List.set_cons_succ]
 refine mix_done ?_
 go_wp2
 rw [rounds_succ]
 go_wp2
 refine wp_region_mixS (fun w' => w'.cell? ⟨w.heap.size + 1 + 1 + 1, 2, none⟩ = some (.int .u64 p20) ∧ w'.cell? ⟨w.heap.size + 1 + 1 + 1, 6, none⟩ = some (.int .u64 p33))
  tF18 tT18 [0, 1, 2, 3, 4, 5, 6, 7, 8, 9, 10, 11, 12, 13, 14, 15] rfl (by kernel_rfl) (fun _ _ d _ _ h => by cases d <;> exact h) (by refine ⟨?_, ?_⟩ <;> go_simp) (fun HS => ?_)
 iterate 9
  first
   | (apply mix_pure rfl rfl rfl; focus (intro wq; go_simp; first | done | with_reducible rfl))
   | (apply mix_look rfl rfl rfl HS; focus (intro wq hq; go_simp; first | done | with_reducible rfl))
  simp only [Act.put, List.setIfInBounds_toArray, List.set_cons_zero, List.set_cons_succ]
 refine mix_act rfl rfl rfl ?_
 intro K hK
 go_simp
 refine (T2.out _).mono ?_
 rintro e w' ⟨rfl, rfl⟩
 refine hK _ _ (fun _ h => h) ?_
 clear hK K HS
 iterate 4
  apply mix_pure rfl rfl rfl
  focus (intro wq; go_simp; first | done | with_reducible rfl)
  simp only [Act.put, List.setIfInBounds_toArray, List.set_cons_zero, List.set_cons_succ]
 refine mix_act rfl rfl rfl ?_
 intro K hK
 go_simp
 refine hK _ _ (fun h => by cases h) ?_
 clear hK K
 apply mix_pure rfl rfl rfl
 focus (intro wq; go_simp; first | done | with_reducible rfl)
 simp only [Act.put, List.setIfInBounds_toArray, List.set_cons_zero, List.set_cons_succ]
 refine mix_done ?_
 go_wp2
 rw [rounds_succ]
 go_wp2
 refine wp_region_mixS (fun w' => w'.cell? ⟨w.heap.size + 1 + 1 + 1, 3, none⟩ = some (.int .u64 p30) ∧ w'.cell? ⟨w.heap.size + 1 + 1 + 1, 7, none⟩ = some (.int .u64 c33))
  tF18 tT18 [0, 1, 2, 3, 4, 5, 6, 7, 8, 9, 10, 11, 12, 13, 14, 15] rfl (by kernel_rfl) (fun _ _ d _ _ h => by cases d <;> exact h) (by refine ⟨?_, ?_⟩ <;> go_simp) (fun HS => ?_)
 iterate 9
  first
   | (apply mix_pure rfl rfl rfl; focus (intro wq; go_simp; first | done | with_reducible rfl))
   | (apply mix_look rfl rfl rfl HS; focus (intro wq hq; go_simp; first | done | with_reducible rfl))
  simp only [Act.put, List.setIfInBounds_toArray, List.set_cons_zero, List.set_cons_succ]
 refine mix_act rfl rfl rfl ?_
 intro K hK
 go_simp
 refine (T3.out _).mono ?_
 rintro e w' ⟨rfl, rfl⟩
 refine hK _ _ (fun _ h => h) ?_
 clear hK K HS
 iterate 4
  apply mix_pure rfl rfl rfl
  focus (intro wq; go_simp; first | done | with_reducible rfl)
  simp only [Act.put, List.setIfInBounds_toArray, List.set_cons_zero, List.set_cons_succ]
 refine mix_act rfl rfl rfl ?_
 intro K hK
 go_simp
 refine hK _ _ (fun h => by cases h) ?_
 clear hK K
 apply mix_pure rfl rfl rfl
 focus (intro wq; go_simp; first | done | with_reducible rfl)
 simp only [Act.put, List.setIfInBounds_toArray, List.set_cons_zero, List.set_cons_succ]
 refine mix_done ?_
 go_wp2
 rw [rounds_succ]
 go_wp2_with fail
 refine (fold_any _ _ _ _ _ _ t0.lo t1.lo t2.lo t3.lo hc0 hc1).mono ?_
 rintro e w1 ⟨q0, q1, q2, q3, hq0, hq1, hq2, hq3, ⟨k, ek⟩, rfl, hb1⟩
 have g4 := bheap hb1 (heap_a35 w _ _ _ _ _) (by simp <;> omega)
 have hB1 : Hid (Below w.heap.size w w1) := by
  refine Below.trans ?_ (hb1.mono (by simp <;> omega))
  repeat first | exact Below.refl _ _ | refine Below.alloc ?_ (by simp <;> omega) _ | refine Below.drew ?_ | refine Below.drewN' ?_ _
 clear hb1
 have EK := Hid.mk (times_end E1.out E2.out ek)
 clear ek
 go_wp2_with (refine st_limbs rfl _ _ rfl _ _ _ _ _ rfl rfl _ _ _ _ g4 ?_; intro w2 g5 o5)
 exact bodyPost_ret (v := .agg #[.int .u64 q0, .int .u64 q1, .int .u64 q2, .int .u64 q3]) (results_cell_row rfl _ _ _ _ _ _ _ rfl g5 Tryz.underlying142 rfl (by kernel_rfl)) rfl
  ⟨q0, q1, q2, q3, hq0, hq1, hq2, hq3, ⟨_, EK.out⟩, rfl, Below.trans hB1.out (Only.below (b := w.heap.size + 1 + 1) (B := w.heap.size) o5 (by omega))⟩
end Go.Proofs.YthghcjepdhkfdaaGreatDoor.Fld

