/-
  Own text. What (*strings.Builder).Write does to a builder that a call has made itself; texts as numbers.
-/
import Derived.Test.YtfkgfojofdachaaJ4
import Derived.Laws.IdiomStrings
import Derived.Test.YtfkgfojofdachaaJ3
import Derived.Laws.AppendOwnNone
import Derived.Test.YtfkgfojofdachaaJ1
namespace Go.Proofs.Ytfkgfojofdachaa
open Go.RowKit Go.Proofs
set_option maxRecDepth 100000
/-- A builder that holds n bytes. -/
def Bld (w : World) (B b n : Nat) (f : Nat → Int) : Prop := Lib.BuilderAt 55 5 B b (.pointer (some ⟨b, 0, none⟩)) (nums .u8 n f) w
theorem Bld.kept {w w' : World} {B b n : Nat} {f : Nat → Int} (h : Bld w B b n f) (hb : Below w.heap.size w w') : Bld w' B b n f := by
  obtain ⟨hB, v, hk, ho, hn⟩ := h
  exact ⟨hB, v, (hb.block b (heap_lt hk)).trans hk, own_kept ho hb, hn⟩
theorem Bld.congr {w : World} {B b n : Nat} {f g : Nat → Int} (h : Bld w B b n f) (e : ∀ i, i < n → f i = g i) : Bld w B b n g := by
  unfold Bld; rw [← nums_congr e]; exact h
theorem Bld.lt {w : World} {B b n : Nat} {f : Nat → Int} (h : Bld w B b n f) : b < w.heap.size := by
  obtain ⟨_, v, hk, _⟩ := h
  exact heap_lt hk
theorem neB5 : 55 ≠ 5 := by decide
set_option maxHeartbeats 1000000 in
theorem write_run (B b n m c bd off : Nat) (f r : Nat → Int) (w : World) (h : Bld w B b n f) (hc : ∀ j, j < m → w.cell? ⟨bd, off + j, none⟩ = some (.int .u8 (r j))) (hlen : n + m ≤ 140737488355328) (hBw : B ≤ w.heap.size) :
    Calls Try.prog 34 #[.pointer (some ⟨b, 0, none⟩), .slice (some ⟨bd, off, none⟩) m c] w fun e w' => e = .returned (.tuple #[.int .i64 m, .nilIface]) ∧ Bld w' B b (n + m) (cat n f r) ∧ Below B w w' := by
  obtain ⟨i0, hi, hz0, hz1, hz2⟩ := info_parts infoByte
  obtain ⟨hB, v, hbk, hown, hne⟩ := h
  rw [nums_len] at hown
  have c0 : w.cell? ⟨b, 0, none⟩ = some (.pointer (some ⟨b, 0, none⟩)) := by rw [Lib.cell_of_heap hbk]; rfl
  have c1 : w.cell? ⟨b, 1, none⟩ = some v := by rw [Lib.cell_of_heap hbk]; rfl
  have HC : Hid (∀ j u, (nums .u8 m r)[j]? = some u → w.cell? ((⟨bd, off, none⟩ : Addr).add j) = some u) := Hid.mk (fun j u hj => by
    obtain ⟨hj2, rfl⟩ := nums_get hj
    rw [Addr.add_lit]
    exact hc j hj2)
  clear hc
  go_enter Try.func34, Try.ntmps34
  go_wp2_with fail
  refine (copyCheck_used b w c0).mono ?_
  rintro e w1 ⟨rfl, rfl⟩
  go_wp2_with (at_builtin; refine wpList_append_own w1 rfl _ _ 25 rfl B 5 i0 (.int .u8 0) 1 1 Try.underlying25 hi hz0 hz1 hz2 rfl (by decide) _ n _ rfl hown ⟨bd, off, none⟩ m c (nums .u8 m r) rfl (by rw [nums_len]; omega) HC.out nums_one ?c3 ?c4 hBw ?_)
  case c3 => unfold maxLen; omega
  case c4 => omega
  intro v' w2 hown' hgrow _
  clear HC
  rw [nums_cat] at hown'
  have hlt : b < w1.heap.size := heap_lt hbk
  have hb2 : w2.heap[b]? = some (.cells #[.pointer (some ⟨b, 0, none⟩), v] 55 (0, 0)) := by
    rw [hgrow.block b hlt (fun e => hne e.symm)]
    exact hbk
  have d0 : w2.cell? ⟨b, 0, none⟩ = some (.pointer (some ⟨b, 0, none⟩)) := by rw [Lib.cell_of_heap hb2]; rfl
  have d1 : w2.cell? ⟨b, 1, none⟩ = some v := by rw [Lib.cell_of_heap hb2]; rfl
  have f1 : w2.frozen? ⟨b, 1, none⟩ = false := Lib.frozen_of_heap hb2 1
  obtain ⟨ao, n', cap, rfl⟩ : ∃ ao n' cap, v' = .slice ao n' cap := by
    rcases hown'.2 with ⟨hv, _⟩ | ⟨g, cap, cur, hv, _⟩
    · exact ⟨_, _, _, hv⟩
    · exact ⟨_, _, _, hv⟩
  go_wp2
  exact bodyPost_ret (v := .tuple #[.int .i64 m, .nilIface]) (by simp [results, Try.results34, go_sem]) rfl
    ⟨rfl, Lib.BuilderAt.put hB hb2 (by rw [nums_len]; exact hown') neB5, (Below.grow hgrow hBw (own_base hown)).setCell (p := ⟨b, 1, none⟩) hB _⟩
theorem string_run (B b n : Nat) (f : Nat → Int) (w : World) (h : Bld w B b n f) (hf : ∀ j, j < n → 0 ≤ f j ∧ f j < 256) (hBw : B ≤ w.heap.size) :
    Calls Try.prog 35 #[.pointer (some ⟨b, 0, none⟩)] w fun e w' => e = .returned (.string (mkS n f)) ∧ Below B w w' :=
  Builder_String_any B b (bytesL n f) w (.inr (by rw [← nums_bytes hf]; exact h)) hBw
theorem grow_run (B b n : Nat) (w : World) (hB : B ≤ b) (hbk : w.heap[b]? = some (.cells #[.pointer none, .slice none 0 0] 55 (0, 0))) (hBw : B ≤ w.heap.size) (hn : n ≤ 281474976710656) :
    Calls Try.prog 31 #[.pointer (some ⟨b, 0, none⟩), .int .i64 n] w fun e w' => e = .returned (.tuple #[]) ∧ Bld w' B b 0 (fun _ => 0) ∧ Below B w w' := Builder_Grow_fresh B b n w hB hbk hBw hn
end Go.Proofs.Ytfkgfojofdachaa
/-
  Own text. What Stream of package chacha gives.
-/
namespace Go.Proofs.Ytfkgfojofdachaa
open Go.RowKit Go.Proofs
set_option maxRecDepth 100000
/-- Byte j of the key stream. -/
def ksb (key nonce : Nat → Int) (c : Int) (j : Nat) : Int := blk (ssq key ((c + (j / 64 : Nat)) % 4294967296) nonce 3) (j % 64)
/-- Byte j of a text under the key stream. -/
def strm (key nonce : Nat → Int) (c : Int) (s : ByteArray) (j : Nat) : Int := xorw (txt s j) (ksb key nonce c j)
theorem ssq_12 (key nonce : Nat → Int) (c d : Int) (k : Nat) : upd (ssq key c nonce k) 12 d = ssq key d nonce k := by
  funext i
  unfold upd ssq
  split <;> rfl
theorem ahead_sq (key nonce : Nat → Int) (c : Int) (k : Nat) : upd (ssq key c nonce 3) 12 (addw (ssq key c nonce 3 12) ((k : Int) % 4294967296)) = ssq key ((c + (k : Nat)) % 4294967296) nonce 3 := by
  rw [ssq_12, show ssq key c nonce 3 12 = c from rfl]
  unfold addw
  congr 1
  omega
/-- A block, its first j bytes xor those of a text. -/
def xo (b p : Nat → Int) (j : Nat) (i : Nat) : Int := if i < j then xorw (b i) (p i) else b i
theorem xo_step (b p : Nat → Int) (j : Nat) : upd (xo b p j) j (xorw (xo b p j j) (p j)) = xo b p (j + 1) := by
  funext i
  unfold upd xo
  by_cases e : i = j
  · subst e; simp
  · rw [if_neg e]
    by_cases h : i < j
    · rw [if_pos h, if_pos (by omega)]
    · rw [if_neg h, if_neg (by omega)]
theorem xo_b {b p : Nat → Int} {n : Nat} (j : Nat) (hb : ∀ i, i < n → 0 ≤ b i ∧ b i < 256) (hp : ∀ i, 0 ≤ p i ∧ p i < 256) : ∀ i, i < n → 0 ≤ xo b p j i ∧ xo b p j i < 256 := fun i hi => by
  unfold xo
  split
  · exact xorw_b (hb i hi) (hp i)
  · exact hb i hi
theorem blk_b (s : Nat → Int) : Byts 64 (blk s) := pw_byts _ _ _
theorem sl64H (b j : Nat) (w : World) (hj : j ≤ 64) : (Instr.sliceAt 57 (.pointer (some ⟨b, 0, none⟩)) none (some (.int .i64 (j : Int))) none).run Try.prog w = .ok (.slice (some ⟨b, 0, none⟩) j 64) w := by
  rw [run_sliceAt_array_h (P := Try.prog) w 57 ⟨b, 0, none⟩ Try.underlying57 .i64 (j : Int) (by omega) (by rw [len64]; omega), sizeB64, len64]
  simp only [Result.andThen_ok, slicedAt, Int.toNat_natCast, Nat.zero_mul]
  rw [if_neg (by omega), Addr.add_lit]
  simp
theorem strm_b (key nonce : Nat → Int) (c : Int) (s : ByteArray) (j : Nat) : 0 ≤ strm key nonce c s j ∧ strm key nonce c s j < 256 := xorw_b (txt_b s j) (blk_b _ _ (Nat.mod_lt _ (by decide)))
set_option maxHeartbeats 4000000 in
set_option maxRecDepth 100000 in
theorem Stream_run (key nonce : Nat → Int) (c : Int) (s : ByteArray) (w : World) (hk : Byts 32 key) (hn : Byts 12 nonce) (_hc : W32 c) (hs : s.size ≤ 140737488355328) :
    Calls Try.prog 21 #[.agg (WA .u8 32 key), .int .u32 c, .agg (WA .u8 12 nonce), .string s] w fun e w' => e = .returned (.string (mkS s.size (strm key nonce c s))) ∧ Below w.heap.size w w' := by
  have g0 : ArrAt ((w.alloc (.cells (WA .u8 32 key) 22)).alloc (.cells (WA .u8 12 nonce) 24)) w.heap.size .u8 22 32 key := heap_alloc2_old w _ _
  have g1 : ArrAt ((w.alloc (.cells (WA .u8 32 key) 22)).alloc (.cells (WA .u8 12 nonce) 24)) (w.heap.size + 1) .u8 24 12 nonce := heap_alloc2_new w _ _
  have hB : Below w.heap.size w ((w.alloc (.cells (WA .u8 32 key) 22)).alloc (.cells (WA .u8 12 nonce) 24)) := ((Below.refl _ w).alloc (by simp) _).alloc (by simp) _
  go_enter Try.func21, Try.ntmps21
  go_wp2_with (first | (refine ld_arr isArr32 g0 (by rfl) ?_) | (refine ld_arr isArr12 g1 (by rfl) ?_))
  refine (streamSquare_run key nonce c _ hk hn).mono ?_
  rintro e v1 ⟨rfl, hb⟩
  replace hB := hB.trans (hb.mono hB.size)
  clear hb g0 g1
  go_wp2_with (first | (refine st_arr (s' := fun _ => 0) (k' := .u32) isSq (heap_alloc_new v1 _) (by rfl) (by rfl) ?_; intro v2 g3 o3; refine Hid.out ?_))
  have hz9 : w.heap.size ≤ v1.heap.size := hB.size
  replace hB := (hB.alloc hB.size _).trans (o3.below hB.size)
  have hz1 := hB.size
  clear o3
  generalize v1.heap.size = b9 at *
  refine Hid.mk ?_
  go_wp2_with fail
  refine (grow_run v2.heap.size v2.heap.size s.size _ (Nat.le_refl _) (heap_alloc_new v2 _) (by simp) (by omega)).mono ?_
  rintro e v3 ⟨rfl, hD, hb3⟩
  have hz10 := g3.lt
  replace g3 := (g3.alloc _).below hb3 hz10
  replace hB := (hB.alloc hB.size _).trans (hb3.mono hz1)
  have hz3 : v2.heap.size ≤ v3.heap.size := Nat.le_trans (by simp) hb3.size
  clear hb3 hz1
  generalize v2.heap.size = b10 at *
  obtain ⟨N, hN⟩ : ∃ N : Nat, (s.size + 63) / 64 = N := ⟨_, rfl⟩
  have hq : ((s.size : Int) + 64 - 1).tdiv 64 = (N : Int) := by rw [Int.tdiv_eq_ediv_of_nonneg (by omega)]; omega
  have hN2 : (N : Int) < 9223372036854775807 := by omega
  go_wp2_with fail
  go_loopg [28] N (fun m i v => ∃ k : Nat, Hid (m + k = N) ∧ i = .int .i64 k ∧ ArrAt v b9 .u32 51 16 (ssq key c nonce 3) ∧ Bld v b10 b10 (min (64 * k) s.size) (strm key nonce c s) ∧ Below w.heap.size w v ∧ b10 ≤ v.heap.size)
  case atStart => exact ⟨0, Hid.mk (by omega), rfl, g3, by simpa using hD.congr (fun i hi => by omega), hB, hz3⟩
  case round =>
    clear g3 hD hB hz3
    obtain ⟨k, HK, rfl, g3, hD, hB, hz3⟩ := hrel
    have hkN : k ≤ N := by have := HK.out; omega
    by_cases hlt : k < N
    · have hks : 64 * k < s.size := by omega
      go_wp2_with (first | (refine ld_arr isSq g3 (by rfl) ?_))
      refine (ahead_run _ _ _).mono ?_
      rintro e v4 ⟨rfl, hb4⟩
      rw [ahead_sq]
      have hW : ∀ i, i < 16 → W32 (ssq key ((c + (k : Nat)) % 4294967296) nonce 3 i) := ssq_w hk hn (by unfold W32; omega)
      have HB : Hid (blk (ssq key ((c + (k : Nat)) % 4294967296) nonce 3) = fun i => blk (ssq key ((c + (k : Nat)) % 4294967296) nonce 3) i) := Hid.mk rfl
      go_wp2_with fail
      refine (block_run _ _ hW).mono ?_
      rintro e v5 ⟨rfl, hb5⟩
      have hb45 : Below wr.heap.size wr v5 := hb4.trans (hb5.mono hb4.size)
      replace g3 := g3.kept hb45
      replace hD := hD.kept hb45
      replace hB := hB.trans (hb45.mono hB.size)
      replace hz3 := Nat.le_trans hz3 hb45.size
      clear hb4 hb5 hb45 hW HB
      have hbk := blk_b (ssq key ((c + (k : Nat)) % 4294967296) nonce 3)
      obtain ⟨bk, HK2⟩ : ∃ bk, Hid (blk (ssq key ((c + (k : Nat)) % 4294967296) nonce 3) = bk) := ⟨_, Hid.mk rfl⟩
      rw [HK2.out] at hbk ⊢
      have HS := Hid.mk (extract_size s (k * 64))
      have HT : Hid (∀ j, k * 64 + j < s.size → txt (s.extract (k * 64) s.size) j = txt s (k * 64 + j)) := Hid.mk (fun j hj => txt_extract s (k * 64) j hj)
      generalize s.extract (k * 64) s.size = pc at *
      obtain ⟨n, HN⟩ : ∃ n : Nat, Hid (min pc.size 64 = n) := ⟨_, Hid.mk rfl⟩
      have hmin : min (pc.size : Int) 64 = (n : Int) := by have := HN.out; omega
      have hn64 : n ≤ 64 := by have := HN.out; omega
      have hnp : n ≤ pc.size := by have := HN.out; omega
      have hpsz : pc.size ≤ 140737488355328 := by have := HS.out; omega
      go_wp2_with (first | (refine st_arr (s' := fun _ => 0) (k' := .u8) isArr64 (heap_alloc_new v5 _) (by rfl) (by rfl) ?_; intro v6 g6 o6; refine Hid.out ?_))
      have hb6 : Below v5.heap.size v5 v6 := ((Below.refl _ v5).alloc (Nat.le_refl _) _).trans (o6.below (Nat.le_refl _))
      clear o6
      refine Hid.mk ?_
      go_wp2_with fail
      rw [show bk = xo bk (txt pc) 0 from by funext i; unfold xo; rw [if_neg (by omega)]] at g6
      obtain ⟨b13, hb13⟩ : ∃ b, v5.heap.size = b := ⟨_, rfl⟩
      rw [hb13] at g6 hb6 ⊢
      generalize wr = wo at *
      generalize gk = go at *
      go_loopg [44] n (fun m i v => ∃ j : Nat, Hid (m + j = n) ∧ i = .int .i64 j ∧ ArrAt v b13 .u8 57 64 (xo bk (txt pc) j) ∧ Below b13 v5 v)
      case atStart => exact ⟨0, Hid.mk (by omega), rfl, g6, hb6⟩
      case round =>
        clear g6 hb6
        obtain ⟨j, HJ, rfl, g6, hb6⟩ := hrel
        have hjn : j ≤ n := by have := HJ.out; omega
        by_cases hjl : j < n
        · have hj64 : j < 64 := by omega
          have hjp : j < pc.size := by omega
          go_wp2_with fail
          refine wp_region3 (Below b13 v5) wr.heap.size
            [(b13, once (WA .u8 64 (xo bk (txt pc) j)) 57 8 (WA .u8 64 (xo bk (txt pc) (j + 1))))]
            [kv (.int .i64 (j : Int)), kv (.pointer (some ⟨b13, j, none⟩)), kv (.int .u8 (xo bk (txt pc) j j)), kv (.string pc), kv (.int .i64 (j : Int)), kv (.int .u8 (txt pc j)), kv (.int .u8 (xorw (xo bk (txt pc) j j) (txt pc j))), kv (.pointer (some ⟨b13, j, none⟩)), .val fun _ => True]
            [.none, .none, .none, .none, .none, .none, .none, .none, .base 0 1]
            [some 47, some 48, some 49, some 50, some 51, some 52, some 53, some 54, none]
            [(12, .string pc), (13, .pointer (some ⟨b13, 0, none⟩)), (15, .int .i64 (j : Int))]
            [[], [.slot 0], [.slot 1, .base 0 0], [], [], [.slot 3, .slot 4], [.slot 2, .slot 5], [.slot 0], [.slot 7, .slot 6, .base 0 0]]
            [.base 0 1] [47, 48, 49, 50, 51, 52, 53, 54]
            rfl (by kernel_rfl) ⟨rfl, rfl, rfl, trivial⟩ (Below.drew hb6) (Nat.le_refl _) ⟨⟨g6.lt, obIn g6⟩, trivial⟩ ⟨trivial, trivial⟩ (below_Gc (Nat.le_of_eq hb13.symm) (hb13 ▸ hb6.size) ⟨Nat.le_refl _, trivial⟩)
            ⟨
              -- 0
              (fun Q aq ww own hS hBg fr kn => .inl ⟨trivial, fun K hK => wp_value (exec_move rfl fr.2.2.1) (hK _ _ ⟨Touch.refl _ _, rfl⟩)⟩),
              -- 1
              (fun Q aq ww own hS hBg fr kn => .inl ⟨trivial, fun K hK => wp_value (exec_idxA rfl Try.underlying57 len64 sizeB64 fr.2.1 kn.1 hj64) (hK _ _ ⟨Touch.refl _ _, rfl⟩)⟩),
              -- 2
              (fun Q aq ww own hS hBg fr kn => .inl ⟨trivial, fun K hK => wp_value (exec_ld rfl kn.1 (run_load8 (ArrAt.cell (obAt kn.2.1) j hj64))) (hK _ _ ⟨Touch.refl _ _, rfl⟩)⟩),
              -- 3
              (fun Q aq ww own hS hBg fr kn => .inl ⟨trivial, fun K hK => wp_value (exec_move rfl fr.1) (hK _ _ ⟨Touch.refl _ _, rfl⟩)⟩),
              -- 4
              (fun Q aq ww own hS hBg fr kn => .inl ⟨trivial, fun K hK => wp_value (exec_move rfl fr.2.2.1) (hK _ _ ⟨Touch.refl _ _, rfl⟩)⟩),
              -- 5
              (fun Q aq ww own hS hBg fr kn => .inl ⟨trivial, fun K hK => wp_value (exec_ixs rfl kn.1 kn.2.1 hjp) (hK _ _ ⟨Touch.refl _ _, rfl⟩)⟩),
              -- 6
              (fun Q aq ww own hS hBg fr kn => .inl ⟨trivial, fun K hK => wp_value (exec_xor8 rfl kn.1 kn.2.1 (xo_b j hbk (txt_b pc) j hj64) (txt_b pc j)) (hK _ _ ⟨Touch.refl _ _, rfl⟩)⟩),
              -- 7
              (fun Q aq ww own hS hBg fr kn => .inl ⟨trivial, fun K hK => wp_value (exec_idxA rfl Try.underlying57 len64 sizeB64 fr.2.1 kn.1 hj64) (hK _ _ ⟨Touch.refl _ _, rfl⟩)⟩),
              -- 8
              (fun Q aq ww own hS hBg fr kn => .inl ⟨trivial, fun K hK => act_cell8 rfl kn.1 kn.2.1 (obAt kn.2.2.1) hj64 (fun w2 hg ho => hK _ _ ⟨⟨touch_only ho, obIn (show _ = _ from by rw [← xo_step]; exact hg)⟩, trivial⟩)⟩),
              trivial⟩ ?_
          intro vs7 own7 v7 hb7 hs7 kn inj
          clear inj hs7
          have G6 : ArrAt v7 b13 .u8 57 64 (xo bk (txt pc) (j + 1)) := obAt kn.1
          clear kn
          simp only [putAll, Act.put, List.setIfInBounds_toArray, List.set_cons_zero, List.set_cons_succ]
          go_wp2_with fail
          go_roundg (n - (j + 1))
          case rel => exact ⟨j + 1, Hid.mk (by omega), by go_num, G6, hb7⟩
          case measure => have := HJ.out; omega
        · have hj2 : j = n := by omega
          subst hj2
          clear hjl hjn HJ
          have hsl := fun w => sl64H b13 j w hn64
          go_wp2_with fail
          have hD2 := hD.kept (hb13.symm ▸ hb6)
          have g3b := g3.kept (hb13.symm ▸ hb6)
          refine (write_run b10 b10 (min (64 * k) s.size) j 64 b13 0 (strm key nonce c s) (xo bk (txt pc) j) _ hD2 (fun q hq => by rw [Nat.zero_add]; exact g6.cell q (by omega)) (by have := HS.out; omega) (by have := hb6.size; omega)).mono ?_
          rintro e v8 ⟨rfl, hD8, hb8⟩
          have hks2 : min (64 * k) s.size = 64 * k := by omega
          have hnx : min (64 * k) s.size + j = min (64 * (k + 1)) s.size := by have := HN.out; have := HS.out; omega
          replace hD8 := hD8.congr (g := strm key nonce c s) (fun i hi => by
            rw [hks2]
            unfold cat
            split
            · rfl
            · rename_i h
              have e1 : i / 64 = k := by omega
              have e2 : i % 64 = i - 64 * k := by omega
              have e3 : txt pc (i - 64 * k) = txt s i := by
                have := HT.out (i - 64 * k) (by have := HS.out; omega)
                rw [this]
                congr 1
                omega
              unfold xo strm ksb
              rw [if_pos (by omega), e1, e2, e3, HK2.out, xorw_comm])
          rw [hnx] at hD8
          have g8 := g3b.below hb8 hz10
          have hB8 := (hB.trans (Below.mono (hb13.symm ▸ hb6) hB.size)).trans (hb8.mono (by omega))
          have hz8 : b10 ≤ v8.heap.size := by have := hb8.size; have := hb6.size; omega
          clear hsl hD hD2 g3 g3b g6 hb6 hb8 hB hmin
          go_wp2_with fail
          go_roundg (N - (k + 1))
          case rel => exact ⟨k + 1, Hid.mk (by omega), by go_num, g8, hD8, hB8, hz8⟩
          case measure => have := HK.out; omega
    · have hk2 : k = N := by omega
      subst hk2
      have hall : min (64 * k) s.size = s.size := by omega
      rw [hall] at hD
      go_wp2_with fail
      refine (string_run b10 b10 s.size (strm key nonce c s) _ hD (fun j _ => strm_b key nonce c s j) hz3).mono ?_
      rintro e v9 ⟨rfl, hb9⟩
      go_wp2_with fail
      go_ret
      exact ⟨rfl, hB.trans (hb9.mono (by omega))⟩
end Go.Proofs.Ytfkgfojofdachaa
/-
  Own text. What Stream of the document's answer gives: the same text.
-/
namespace Go.Proofs.Ytfkgfojofdachaa
open Go.RowKit Go.Proofs
set_option maxRecDepth 100000
/-- A text, of which the first i bytes are under the key stream. -/
def mix (g t : Nat → Int) (i : Nat) (j : Nat) : Int := if j < i then g j else t j
theorem mix_step (g t : Nat → Int) (i : Nat) (v : Int) (h : v = g i) : upd (mix g t i) i v = mix g t (i + 1) := by
  subst h
  funext j
  unfold upd mix
  by_cases e : j = i
  · subst e; simp
  · rw [if_neg e]
    by_cases h : j < i
    · rw [if_pos h, if_pos (by omega)]
    · rw [if_neg h, if_neg (by omega)]
set_option maxHeartbeats 4000000 in
set_option maxRecDepth 100000 in
theorem rStream_run (key nonce : Nat → Int) (c : Int) (s : ByteArray) (w : World) (hk : Byts 32 key) (hn : Byts 12 nonce) (hc : W32 c) (hs : s.size ≤ 140737488355328) :
    Calls Try.prog 24 #[.agg (WA .u8 32 key), .int .u32 c, .agg (WA .u8 12 nonce), .string s] w fun e w' => e = .returned (.string (mkS s.size (strm key nonce c s))) ∧ Below w.heap.size w w' := by
  have g0 : ArrAt ((w.alloc (.cells (WA .u8 32 key) 22)).alloc (.cells (WA .u8 12 nonce) 24)) w.heap.size .u8 22 32 key := heap_alloc2_old w _ _
  have g1 : ArrAt ((w.alloc (.cells (WA .u8 32 key) 22)).alloc (.cells (WA .u8 12 nonce) 24)) (w.heap.size + 1) .u8 24 12 nonce := heap_alloc2_new w _ _
  have hB : Below w.heap.size w ((w.alloc (.cells (WA .u8 32 key) 22)).alloc (.cells (WA .u8 12 nonce) 24)) := ((Below.refl _ w).alloc (by simp) _).alloc (by simp) _
  obtain ⟨cp, v1, hcv, hR, hb1⟩ := conv_str s ((w.alloc (.cells (WA .u8 32 key) 22)).alloc (.cells (WA .u8 12 nonce) 24))
  rw [show ((w.alloc (.cells (WA .u8 32 key) 22)).alloc (.cells (WA .u8 12 nonce) 24)).heap.size = w.heap.size + 1 + 1 by simp] at hcv hR
  replace g0 := g0.kept hb1
  replace g1 := g1.kept hb1
  replace hB := hB.trans (hb1.mono hB.size)
  clear hb1
  go_enter Try.func24, Try.ntmps24
  go_wp2_with fail
  clear hcv
  obtain ⟨b9, hb9⟩ : ∃ b, w.heap.size + 1 + 1 = b := ⟨_, rfl⟩
  rw [hb9] at hR ⊢
  obtain ⟨N, hN⟩ : ∃ N : Nat, (s.size + 63) / 64 = N := ⟨_, rfl⟩
  go_loopg [1, 10] N (fun m cv i v => ∃ q : Nat, Hid (m + q = N) ∧ cv = .int .u32 ((c + (q : Nat)) % 4294967296) ∧ i = .int .i64 ((min (64 * q) s.size : Nat) : Int) ∧ ArrAt v w.heap.size .u8 22 32 key ∧ ArrAt v (w.heap.size + 1) .u8 24 12 nonce ∧ RowAt v b9 .u8 5 s.size (mix (strm key nonce c s) (txt s) (min (64 * q) s.size)) ∧ Below w.heap.size w v)
  case atStart => exact ⟨0, Hid.mk (by omega), by unfold W32 at hc; congr 1; omega, by simp, g0, g1, hR.mono (Nat.le_refl _) (fun i _ => by simp [mix]), hB⟩
  case round =>
    clear g0 g1 hR hB
    obtain ⟨q, HQ, rfl, rfl, g0, g1, hR, hB⟩ := hrel
    have hqN : q ≤ N := by have := HQ.out; omega
    by_cases hlt : q < N
    · have hqs : 64 * q < s.size := by omega
      have hm : min (64 * q) s.size = 64 * q := by omega
      rw [hm] at hR ⊢
      go_wp2_with (first | (refine ld_arr isArr32 g0 (by rfl) ?_) | (refine ld_arr isArr12 g1 (by rfl) ?_))
      refine (rBlock_run key nonce ((c + (q : Nat)) % 4294967296) _ hk hn (by unfold W32; omega)).mono ?_
      rintro e v4 ⟨rfl, hb4⟩
      replace g0 := g0.kept hb4
      replace g1 := g1.kept hb4
      have hz4 : b9 < v4.heap.size := Nat.lt_of_lt_of_le hR.lt hb4.size
      replace hR := hR.below hb4 hR.lt
      replace hB := hB.trans (hb4.mono hB.size)
      clear hb4
      have hbk := blk_b (ssq key ((c + (q : Nat)) % 4294967296) nonce 3)
      obtain ⟨bk, HK2⟩ : ∃ bk, Hid (blk (ssq key ((c + (q : Nat)) % 4294967296) nonce 3) = bk) := ⟨_, Hid.mk rfl⟩
      rw [HK2.out] at hbk ⊢
      go_wp2_with (first | (refine st_arr (s' := fun _ => 0) (k' := .u8) isArr64 (heap_alloc_new v4 _) (by rfl) (by rfl) ?_; intro v5 g5 o5; refine Hid.out ?_))
      replace g0 := (g0.alloc _).only o5 (Nat.ne_of_lt g0.lt)
      replace g1 := (g1.alloc _).only o5 (Nat.ne_of_lt g1.lt)
      replace hR := (hR.alloc _).only o5 (Nat.ne_of_lt hz4)
      replace hB := (hB.alloc hB.size _).trans (o5.below hB.size)
      clear o5
      generalize v4.heap.size = b11 at *
      refine Hid.mk ?_
      have hd : decide (((64 * q : Nat) : Int) < (s.size : Int)) = true := by simp; omega
      go_wp2_with fail
      obtain ⟨n, hnn⟩ : ∃ n : Nat, min 64 (s.size - 64 * q) = n := ⟨_, rfl⟩
      generalize wr = wo at *
      generalize gk = go at *
      go_loopg [10, 12] n (fun m i jv v => ∃ j : Nat, Hid (m + j = n) ∧ i = .int .i64 ((64 * q + j : Nat) : Int) ∧ jv = .int .i64 (j : Int) ∧ ArrAt v w.heap.size .u8 22 32 key ∧ ArrAt v (w.heap.size + 1) .u8 24 12 nonce ∧ ArrAt v b11 .u8 57 64 bk ∧ RowAt v b9 .u8 5 s.size (mix (strm key nonce c s) (txt s) (64 * q + j)) ∧ Below w.heap.size w v)
      case atStart => exact ⟨0, Hid.mk (by omega), by go_num, rfl, g0, g1, g5, hR, hB⟩
      case round =>
        clear g0 g1 hR hB g5
        obtain ⟨j, HJ, rfl, rfl, g0, g1, g5, hR, hB⟩ := hrel
        have hjn : j ≤ n := by have := HJ.out; omega
        by_cases hjl : j < n
        · have hj64 : j < 64 := by omega
          have hjs : 64 * q + j < s.size := by omega
          have HX : Hid (xorw (mix (strm key nonce c s) (txt s) (64 * q + j) (64 * q + j)) (bk j) = strm key nonce c s (64 * q + j)) := Hid.mk (by
            have e1 : (64 * q + j) / 64 = q := by omega
            have e2 : (64 * q + j) % 64 = j := by omega
            unfold mix strm ksb
            rw [if_neg (by omega), e1, e2, HK2.out])
          have hmb : 0 ≤ mix (strm key nonce c s) (txt s) (64 * q + j) (64 * q + j) ∧ mix (strm key nonce c s) (txt s) (64 * q + j) (64 * q + j) < 256 := by
            unfold mix
            rw [if_neg (by omega)]
            exact txt_b _ _
          obtain ⟨i, hi⟩ : ∃ i, 64 * q + j = i := ⟨_, rfl⟩
          rw [hi] at HX hmb hR hjs ⊢
          have hic : (i : Int) < (s.size : Int) := by omega
          go_wp2_with fail
          refine wp_region3 (Below w.heap.size w) wr.heap.size
            [(w.heap.size, fixd (WA .u8 32 key) 22), ((w.heap.size + 1), fixd (WA .u8 12 nonce) 24), (b11, fixd (WA .u8 64 bk) 57), (b9, ⟨rowOb .u8 5 s.size (mix (strm key nonce c s) (txt s) i), [(11, rowOb .u8 5 s.size (mix (strm key nonce c s) (txt s) (i + 1)))]⟩)]
            [kv (.slice (some ⟨b9, 0, none⟩) s.size cp), kv (.int .i64 (i : Int)), kv (.slice (some ⟨b9, 0, none⟩) s.size cp), kv (.int .i64 (i : Int)), kv (.pointer (some ⟨b9, 0 + i, none⟩)), kv (.int .u8 (mix (strm key nonce c s) (txt s) i i)), kv (.int .i64 (j : Int)), kv (.pointer (some ⟨b11, j, none⟩)), kv (.int .u8 (bk j)), kv (.int .u8 (xorw (mix (strm key nonce c s) (txt s) i i) (bk j))), kv (.pointer (some ⟨b9, 0 + i, none⟩)), .val fun _ => True]
            [.none, .none, .none, .none, .none, .none, .none, .none, .none, .none, .none, .base 3 1]
            [some 33, some 34, some 35, some 36, some 37, some 38, some 39, some 40, some 41, some 42, some 43, none]
            [(9, .slice (some ⟨b9, 0, none⟩) s.size cp), (10, .int .i64 (i : Int)), (11, .pointer (some ⟨b11, 0, none⟩)), (12, .int .i64 (j : Int))]
            [[], [], [], [], [.slot 2, .slot 3], [.slot 4, .base 3 0], [], [.slot 6], [.slot 7, .base 2 0], [.slot 5, .slot 8], [.slot 0, .slot 1], [.slot 10, .slot 9, .base 3 0]]
            [.base 0 0, .base 1 0, .base 2 0, .base 3 1] [33, 34, 35, 36, 37, 38, 39, 40, 41, 42, 43]
            rfl (by kernel_rfl) ⟨rfl, rfl, rfl, rfl, trivial⟩ (Below.drew hB) (Nat.le_refl _) ⟨⟨g0.lt, obIn g0⟩, ⟨g1.lt, obIn g1⟩, ⟨g5.lt, obIn g5⟩, ⟨hR.lt, hR⟩, trivial⟩ ⟨⟨trivial, trivial, (show (w.heap.size : Nat) ≠ b9 from by omega), trivial⟩, ⟨trivial, (show ((w.heap.size + 1) : Nat) ≠ b9 from by omega), trivial⟩, ⟨(show (b11 : Nat) ≠ b9 from by omega), trivial⟩, trivial, trivial⟩ (below_G hB.size ⟨by omega, by omega, by omega, by omega, trivial⟩)
            ⟨
              -- 0
              (fun Q aq ww own hS hBg fr kn => .inl ⟨trivial, fun K hK => wp_value (exec_move rfl fr.1) (hK _ _ ⟨Touch.refl _ _, rfl⟩)⟩),
              -- 1
              (fun Q aq ww own hS hBg fr kn => .inl ⟨trivial, fun K hK => wp_value (exec_move rfl fr.2.1) (hK _ _ ⟨Touch.refl _ _, rfl⟩)⟩),
              -- 2
              (fun Q aq ww own hS hBg fr kn => .inl ⟨trivial, fun K hK => wp_value (exec_move rfl fr.1) (hK _ _ ⟨Touch.refl _ _, rfl⟩)⟩),
              -- 3
              (fun Q aq ww own hS hBg fr kn => .inl ⟨trivial, fun K hK => wp_value (exec_move rfl fr.2.1) (hK _ _ ⟨Touch.refl _ _, rfl⟩)⟩),
              -- 4
              (fun Q aq ww own hS hBg fr kn => .inl ⟨trivial, fun K hK => wp_value (exec_idx rfl Try.underlying25 size_byte kn.1 kn.2.1 hjs) (hK _ _ ⟨Touch.refl _ _, rfl⟩)⟩),
              -- 5
              (fun Q aq ww own hS hBg fr kn => .inl ⟨trivial, fun K hK => wp_value (exec_ld rfl kn.1 (run_load8 (cell8 kn.2.1 hjs))) (hK _ _ ⟨Touch.refl _ _, rfl⟩)⟩),
              -- 6
              (fun Q aq ww own hS hBg fr kn => .inl ⟨trivial, fun K hK => wp_value (exec_move rfl fr.2.2.2.1) (hK _ _ ⟨Touch.refl _ _, rfl⟩)⟩),
              -- 7
              (fun Q aq ww own hS hBg fr kn => .inl ⟨trivial, fun K hK => wp_value (exec_idxA rfl Try.underlying57 len64 sizeB64 fr.2.2.1 kn.1 hj64) (hK _ _ ⟨Touch.refl _ _, rfl⟩)⟩),
              -- 8
              (fun Q aq ww own hS hBg fr kn => .inl ⟨trivial, fun K hK => wp_value (exec_ld rfl kn.1 (run_load8 (ArrAt.cell (obAt kn.2.1) j hj64))) (hK _ _ ⟨Touch.refl _ _, rfl⟩)⟩),
              -- 9
              (fun Q aq ww own hS hBg fr kn => .inl ⟨trivial, fun K hK => wp_value (exec_xor8 rfl kn.1 kn.2.1 hmb (hbk j hj64)) (hK _ _ ⟨Touch.refl _ _, rfl⟩)⟩),
              -- 10
              (fun Q aq ww own hS hBg fr kn => .inl ⟨trivial, fun K hK => wp_value (exec_idx rfl Try.underlying25 size_byte kn.1 kn.2.1 hjs) (hK _ _ ⟨Touch.refl _ _, rfl⟩)⟩),
              -- 11
              (fun Q aq ww own hS hBg fr kn => .inl ⟨trivial, fun K hK => act_row8 rfl (ptr0 kn.1) kn.2.1 kn.2.2.1 hjs (fun w2 hg ho => hK _ _ ⟨⟨touch_only ho, mix_step _ _ i _ HX.out ▸ hg⟩, trivial⟩)⟩),
              trivial⟩ ?_
          intro vs6 own6 v6 hB6 hs6 kn inj
          clear inj hs6
          have G0 : ArrAt v6 w.heap.size .u8 22 32 key := obAt kn.1
          have G1 : ArrAt v6 (w.heap.size + 1) .u8 24 12 nonce := obAt kn.2.1
          have G5 : ArrAt v6 b11 .u8 57 64 bk := obAt kn.2.2.1
          have R6 : RowAt v6 b9 .u8 5 s.size (mix (strm key nonce c s) (txt s) (i + 1)) := kn.2.2.2.1
          clear kn
          simp only [putAll, Act.put, List.setIfInBounds_toArray, List.set_cons_zero, List.set_cons_succ]
          go_wp2_with fail
          go_roundg (n - (j + 1))
          case rel => exact ⟨j + 1, Hid.mk (by omega), by go_num, by go_num, G0, G1, G5, by rw [← Nat.add_assoc, hi]; exact R6, hB6⟩
          case measure => have := HJ.out; omega
        · have hj2 : j = n := by omega
          subst hj2
          clear hjl hjn HJ
          have hx : 64 * q + j = min (64 * (q + 1)) s.size := by omega
          have hend : ¬ ((j : Int) < 64 ∧ ((64 * q + j : Nat) : Int) < (s.size : Int)) := by omega
          rw [hx] at hR
          by_cases hj64 : (j : Int) < 64
          · have hns : ¬ (((64 * q + j : Nat) : Int) < (s.size : Int)) := by omega
            go_wp2_with fail
            go_roundg (N - (q + 1))
            case rel => exact ⟨q + 1, Hid.mk (by omega), congrArg (Value.int .u32) (by omega), by rw [← hx], g0, g1, hR, hB⟩
            case measure => have := HQ.out; omega
          · go_wp2_with fail
            go_roundg (N - (q + 1))
            case rel => exact ⟨q + 1, Hid.mk (by omega), congrArg (Value.int .u32) (by omega), by rw [← hx], g0, g1, hR, hB⟩
            case measure => have := HQ.out; omega
    · have hk2 : q = N := by omega
      subst hk2
      have hall : min (64 * q) s.size = s.size := by omega
      rw [hall] at hR ⊢
      have hback := str_back s.size b9 cp wr s.size (strm key nonce c s) (hR.mono (Nat.le_refl _) (fun i hi => by unfold mix; rw [if_pos hi])) (fun j _ => strm_b key nonce c s j) rfl
      go_wp2_with fail
      go_ret
      exact ⟨rfl, hB⟩
end Go.Proofs.Ytfkgfojofdachaa
/-
  Own text. The document's answer for aead: the mark.
-/
namespace Go.Proofs.Ytfkgfojofdachaa
open Go.RowKit Go.Proofs
set_option maxRecDepth 100000
theorem enterWhole (args : Array Value) (w : World) : (callFunc 42 args).run Try.prog w = .ok (.enter 42 args) w := by kernel_rfl
theorem enterEight (args : Array Value) (w : World) : (callFunc 29 args).run Try.prog w = .ok (.enter 29 args) w := by kernel_rfl
theorem enterRTag (args : Array Value) (w : World) : (callFunc 41 args).run Try.prog w = .ok (.enter 41 args) w := by kernel_rfl
/-- The key for one use. -/
def onceK (key nonce : Nat → Int) : Nat → Int := over (fun _ => 0) 0 32 (blk (ssq key 0 nonce 3))
/-- What is marked. -/
def marked (under beside : ByteArray) : ByteArray := padZ beside ++ padZ under ++ mkS 8 (digN (beside.size : Int)) ++ mkS 8 (digN (under.size : Int))
def markT (key nonce : Nat → Int) (under beside : ByteArray) : ByteArray := mkS 16 (digN (markN (onceK key nonce) (txt (marked under beside)) (marked under beside).size))
theorem onceK_b (key nonce : Nat → Int) : Byts 32 (onceK key nonce) := fun i hi => by
  unfold onceK over
  split
  · exact blk_b _ _ (by omega)
  · show 0 ≤ (0 : Int) ∧ (0 : Int) < 256
    omega
theorem padZ_size (s : ByteArray) : (padZ s).size ≤ s.size + 15 := by
  unfold padZ
  rw [ByteArray.size_append, mkS_size]
  omega
theorem zero16 (w : World) : (zeroValue 42).run Try.prog w = .ok (.agg (WA .u8 16 fun _ => 0)) w := by kernel_rfl
theorem conv_iu {n : Int} (h : 0 ≤ n ∧ n < 18446744073709551616) (w : World) : (convert 3 36 (.int .i64 n)).run Try.prog w = .ok (.int .u64 n) w := by
  simp [go_sem, w64 (z := n) h.1 h.2]
theorem sl32w (b : Nat) (w : World) : (Instr.sliceAt 22 (.pointer (some ⟨b, 0, none⟩)) none none none).run Try.prog w = .ok (.slice (some ⟨b, 0, none⟩) 32 32) w := by simp [go_sem]
theorem sl64h (b : Nat) (w : World) : (Instr.sliceAt 57 (.pointer (some ⟨b, 0, none⟩)) none (some (.int .i64 32)) none).run Try.prog w = .ok (.slice (some ⟨b, 0, none⟩) 32 64) w := by simp [go_sem]
theorem sl16w (b : Nat) (w : World) : (Instr.sliceAt 42 (.pointer (some ⟨b, 0, none⟩)) none none none).run Try.prog w = .ok (.slice (some ⟨b, 0, none⟩) 16 16) w := by simp [go_sem]
set_option maxHeartbeats 8000000 in
theorem rmark_run (key nonce : Nat → Int) (under beside : ByteArray) (w : World) (hk : Byts 32 key) (hn : Byts 12 nonce) (hu : under.size ≤ 281474976710656) (hbs : beside.size ≤ 281474976710656) :
    Calls Try.prog 25 #[.agg (WA .u8 32 key), .agg (WA .u8 12 nonce), .string under, .string beside] w fun e w' => e = .returned (.string (markT key nonce under beside)) ∧ Below w.heap.size w w' := by
  have g0 : ArrAt ((w.alloc (.cells (WA .u8 32 key) 22)).alloc (.cells (WA .u8 12 nonce) 24)) w.heap.size .u8 22 32 key := heap_alloc2_old w _ _
  have g1 : ArrAt ((w.alloc (.cells (WA .u8 32 key) 22)).alloc (.cells (WA .u8 12 nonce) 24)) (w.heap.size + 1) .u8 24 12 nonce := heap_alloc2_new w _ _
  have hB : Below w.heap.size w ((w.alloc (.cells (WA .u8 32 key) 22)).alloc (.cells (WA .u8 12 nonce) 24)) := ((Below.refl _ w).alloc (by simp) _).alloc (by simp) _
  have p1 := padZ_size under
  have p2 := padZ_size beside
  have HL1 : Hid ((padZ beside).size + (padZ under).size ≤ 9223372036854775807) := Hid.mk (by omega)
  have HL2 : Hid ((padZ beside ++ padZ under).size + (mkS 8 (digN (beside.size : Int))).size ≤ 9223372036854775807) := Hid.mk (by rw [ByteArray.size_append, mkS_size]; omega)
  have HL3 : Hid ((padZ beside ++ padZ under ++ mkS 8 (digN (beside.size : Int))).size + (mkS 8 (digN (under.size : Int))).size ≤ 9223372036854775807) := Hid.mk (by rw [ByteArray.size_append, ByteArray.size_append, mkS_size, mkS_size]; omega)
  have HL4 : Hid ((marked under beside).size ≤ 1152921504606846976) := Hid.mk (by unfold marked; rw [ByteArray.size_append, ByteArray.size_append, ByteArray.size_append, mkS_size, mkS_size]; omega)
  have HB1 : Hid (0 ≤ (beside.size : Int) ∧ (beside.size : Int) < 18446744073709551616) := Hid.mk (by omega)
  have HB2 : Hid (0 ≤ (under.size : Int) ∧ (under.size : Int) < 18446744073709551616) := Hid.mk (by omega)
  have HO := Hid.mk (onceK_b key nonce)
  go_enter Try.func25, Try.ntmps25
  go_wp2_with (first | (refine ld_arr isArr32 g0 (by rfl) ?_) | (refine ld_arr isArr12 g1 (by rfl) ?_))
  refine (rBlock_run key nonce 0 _ hk hn (by unfold W32; omega)).mono ?_
  rintro e v2 ⟨rfl, hb2⟩
  replace hB := hB.trans (hb2.mono hB.size)
  clear hb2 g0 g1
  have gn := fun o (ho : o = Obj.cells (WA .u8 64 fun _ => 0) 57 (0, 0)) => (by rw [ho]; exact heap_alloc_new v2 _ : ArrAt (v2.alloc o) v2.heap.size .u8 57 64 (fun _ => 0))
  have hBS := hB.size
  go_wp2_with (refine st_arr isArr64 (gn _ rfl) (by rfl) (by rfl) ?_; intro v3 gb o3; refine Hid.out ?_)
  replace hB := (hB.alloc hBS _).trans (o3.below hBS)
  clear o3 gn
  have gn := fun o (ho : o = Obj.cells (WA .u8 32 fun _ => 0) 22 (0, 0)) => (by rw [ho]; exact heap_alloc_new v3 _ : ArrAt (v3.alloc o) v3.heap.size .u8 22 32 (fun _ => 0))
  have hlb := gb.lt
  have hBS3 := hB.size
  have HBA := Hid.mk (hB.alloc hBS3)
  refine Hid.mk ?_
  go_wp2_with fail
  generalize v2.heap.size = bb at *
  obtain ⟨bo, hbo⟩ : ∃ bo, bo = v3.heap.size := ⟨_, rfl⟩
  rw [← hbo] at gn hlb ⊢
  refine wp_gen (fun v => ArrAt v bb .u8 57 64 (blk (ssq key 0 nonce 3)) ∧ ArrAt v bo .u8 22 32 (fun _ => 0) ∧ Below w.heap.size w v) ⟨gb.alloc _, gn _ rfl, HBA.out _⟩ ?_
  clear gb gn hB HBA
  rintro v0 ⟨gb, go, hB⟩
  refine wp_region3 (Below w.heap.size w) v0.heap.size
    [(bo, once (WA .u8 32 (fun _ => 0)) 22 2 (WA .u8 32 (over (fun _ => 0) 0 32 (blk (ssq key 0 nonce 3))))), (bb, fixd (WA .u8 64 (blk (ssq key 0 nonce 3))) 57)]
    [kv (.slice (some ⟨bo, 0, none⟩) 32 32), kv (.slice (some ⟨bb, 0, none⟩) 32 64), .val fun _ => True]
    [.none, .none, .base 0 1]
    [some 15, some 16, some 17]
    [(10, .pointer (some ⟨bo, 0, none⟩)), (9, .pointer (some ⟨bb, 0, none⟩))]
    [[], [], [.slot 0, .slot 1, .base 0 0, .base 1 0]]
    [.base 0 1] [15, 16, 17]
    rfl (by kernel_rfl) ⟨rfl, rfl, trivial⟩ (Below.drew hB) (Nat.le_refl _) ⟨⟨go.lt, obIn go⟩, ⟨gb.lt, obIn gb⟩, trivial⟩ ⟨⟨(show (bo : Nat) ≠ bb from by omega), trivial⟩, trivial, trivial⟩ (below_G hB.size ⟨by omega, by omega, trivial⟩)
    ⟨
      -- 0
      (fun Q aq ww own hS hBg fr kn => .inl ⟨trivial, fun K hK => wp_value (exec_sl (v := .pointer (some ⟨bo, 0, none⟩)) rfl fr.1 (sl32w bo ww)) (hK _ _ ⟨Touch.refl _ _, rfl⟩)⟩),
      -- 1
      (fun Q aq ww own hS hBg fr kn => .inl ⟨trivial, fun K hK => wp_value (exec_slH (v := .pointer (some ⟨bb, 0, none⟩)) (u := .int .i64 32) rfl fr.2.1 rfl (sl64h bb ww)) (hK _ _ ⟨Touch.refl _ _, rfl⟩)⟩),
      -- 2
      (fun Q aq ww own hS hBg fr kn => .inl ⟨trivial, fun K hK => act_copy rfl kn.1 kn.2.1 (obAt kn.2.2.1) (m := 32) rfl (by omega) (r := blk (ssq key 0 nonce 3)) (fun q hq => by rw [Nat.zero_add]; exact ArrAt.cell (obAt kn.2.2.2.1) q (by omega)) (fun w2 hg ho => hK _ _ ⟨⟨touch_only ho, obIn hg⟩, trivial⟩)⟩),
      trivial⟩ ?_
  intro vs own v1 hB1 hs1 kn inj
  clear inj hs1 gb go hB
  have go : ArrAt v1 bo .u8 22 32 (onceK key nonce) := obAt kn.1
  have hB := hB1
  clear kn hB1
  simp only [putAll, Act.put, List.setIfInBounds_toArray, List.set_cons_zero, List.set_cons_succ]
  go_wp2_with fail
  refine wp_region3 (Below w.heap.size w) v1.heap.size
    [(bo, fixd (WA .u8 32 (onceK key nonce)) 22)]
    [kv (.agg (WA .u8 32 (onceK key nonce))), kv (.string beside), kv (.string (padZ beside)), kv (.string under), kv (.string (padZ under)), kv (.string (padZ beside ++ padZ under)), kv (.string beside), kv (.int .i64 (beside.size : Int)), kv (.int .u64 (beside.size : Int)), kv (.string (mkS 8 (digN (beside.size : Int)))), kv (.string (padZ beside ++ padZ under ++ mkS 8 (digN (beside.size : Int)))), kv (.string under), kv (.int .i64 (under.size : Int)), kv (.int .u64 (under.size : Int)), kv (.string (mkS 8 (digN (under.size : Int)))), kv (.string (marked under beside)), kv (.agg (WA .u8 16 (digN (markN (onceK key nonce) (txt (marked under beside)) (marked under beside).size)))), kp (WA .u8 16 fun _ => 0) 42 18 (WA .u8 16 (digN (markN (onceK key nonce) (txt (marked under beside)) (marked under beside).size))), .val fun _ => True]
    [.none, .none, .none, .none, .none, .none, .none, .none, .none, .none, .none, .none, .none, .none, .none, .none, .none, .none, .own 17 1]
    [some 18, some 19, some 20, some 21, some 22, some 23, some 24, some 25, some 26, some 27, some 28, some 29, some 30, some 31, some 32, some 33, some 34, some 11, none]
    [(10, .pointer (some ⟨bo, 0, none⟩)), (3, .string beside), (2, .string under)]
    [[.base 0 0], [], [.slot 1], [], [.slot 3], [.slot 2, .slot 4], [], [.slot 6], [.slot 7], [.slot 8], [.slot 5, .slot 9], [], [.slot 11], [.slot 12], [.slot 13], [.slot 10, .slot 14], [.slot 0, .slot 15], [], [.slot 17, .cont 17 0, .slot 16]]
    [.slot 17, .cont 17 1] [18, 19, 20, 21, 22, 23, 24, 25, 26, 27, 28, 29, 30, 31, 32, 33, 34, 11]
    rfl (by kernel_rfl) ⟨rfl, rfl, rfl, trivial⟩ (Below.drew hB) (Nat.le_refl _) ⟨⟨go.lt, obIn go⟩, trivial⟩ ⟨trivial, trivial⟩ (below_G hB.size ⟨by omega, trivial⟩)
    ⟨
      -- 0
      (fun Q aq ww own hS hBg fr kn => .inl ⟨trivial, fun K hK => wp_value (look_arr rfl isArr32 (obAt kn.1) fr.1) (hK _ _ ⟨Touch.refl _ _, rfl⟩)⟩),
      -- 1
      (fun Q aq ww own hS hBg fr kn => .inl ⟨trivial, fun K hK => wp_value (exec_move rfl fr.2.1) (hK _ _ ⟨Touch.refl _ _, rfl⟩)⟩),
      -- 2
      (fun Q aq ww own hS hBg fr kn => .inl ⟨trivial, fun K hK => stepc enterWhole rfl (args1 kn.1) (rwhole_run beside ww (by omega)) (fun w' hb => hK _ _ ⟨touch_below hb, rfl⟩)⟩),
      -- 3
      (fun Q aq ww own hS hBg fr kn => .inl ⟨trivial, fun K hK => wp_value (exec_move rfl fr.2.2.1) (hK _ _ ⟨Touch.refl _ _, rfl⟩)⟩),
      -- 4
      (fun Q aq ww own hS hBg fr kn => .inl ⟨trivial, fun K hK => stepc enterWhole rfl (args1 kn.1) (rwhole_run under ww (by omega)) (fun w' hb => hK _ _ ⟨touch_below hb, rfl⟩)⟩),
      -- 5
      (fun Q aq ww own hS hBg fr kn => .inl ⟨trivial, fun K hK => wp_value (exec_catS rfl kn.1 kn.2.1 HL1.out) (hK _ _ ⟨Touch.refl _ _, rfl⟩)⟩),
      -- 6
      (fun Q aq ww own hS hBg fr kn => .inl ⟨trivial, fun K hK => wp_value (exec_move rfl fr.2.1) (hK _ _ ⟨Touch.refl _ _, rfl⟩)⟩),
      -- 7
      (fun Q aq ww own hS hBg fr kn => .inl ⟨trivial, fun K hK => wp_value (exec_lenS rfl kn.1) (hK _ _ ⟨Touch.refl _ _, rfl⟩)⟩),
      -- 8
      (fun Q aq ww own hS hBg fr kn => .inl ⟨trivial, fun K hK => wp_value (exec_conv rfl kn.1 (conv_iu HB1.out _)) (hK _ _ ⟨Touch.refl _ _, rfl⟩)⟩),
      -- 9
      (fun Q aq ww own hS hBg fr kn => .inl ⟨trivial, fun K hK => stepc enterEight rfl (args1 kn.1) (reight_run _ ww HB1.out) (fun w' hb => hK _ _ ⟨touch_below hb, rfl⟩)⟩),
      -- 10
      (fun Q aq ww own hS hBg fr kn => .inl ⟨trivial, fun K hK => wp_value (exec_catS rfl kn.1 kn.2.1 HL2.out) (hK _ _ ⟨Touch.refl _ _, rfl⟩)⟩),
      -- 11
      (fun Q aq ww own hS hBg fr kn => .inl ⟨trivial, fun K hK => wp_value (exec_move rfl fr.2.2.1) (hK _ _ ⟨Touch.refl _ _, rfl⟩)⟩),
      -- 12
      (fun Q aq ww own hS hBg fr kn => .inl ⟨trivial, fun K hK => wp_value (exec_lenS rfl kn.1) (hK _ _ ⟨Touch.refl _ _, rfl⟩)⟩),
      -- 13
      (fun Q aq ww own hS hBg fr kn => .inl ⟨trivial, fun K hK => wp_value (exec_conv rfl kn.1 (conv_iu HB2.out _)) (hK _ _ ⟨Touch.refl _ _, rfl⟩)⟩),
      -- 14
      (fun Q aq ww own hS hBg fr kn => .inl ⟨trivial, fun K hK => stepc enterEight rfl (args1 kn.1) (reight_run _ ww HB2.out) (fun w' hb => hK _ _ ⟨touch_below hb, rfl⟩)⟩),
      -- 15
      (fun Q aq ww own hS hBg fr kn => .inl ⟨trivial, fun K hK => wp_value (exec_catS rfl kn.1 kn.2.1 HL3.out) (hK _ _ ⟨Touch.refl _ _, rfl⟩)⟩),
      -- 16
      (fun Q aq ww own hS hBg fr kn => .inl ⟨trivial, fun K hK => stepc enterRTag rfl (args2 kn.1 kn.2.1) (rTag_big (onceK key nonce) (marked under beside) ww HO.out HL4.out) (fun w' hb => hK _ _ ⟨touch_below hb, rfl⟩)⟩),
      -- 17
      (fun Q aq ww own hS hBg fr kn => .inl ⟨trivial, fun K hK => act_alloc zero16 rfl (fun w' hb hg => hK _ _ ⟨touch_below hb, _, Nat.le_refl _, rfl, obIn hg⟩)⟩),
      -- 18
      (fun Q aq ww own hS hBg fr kn => .inl ⟨trivial, fun K hK => act_arr rfl isArr16 kn.1.1 kn.2.2.1 (obAt kn.2.1) (fun w2 hg ho => hK _ _ ⟨touch_only ho, obIn hg, trivial⟩)⟩),
      trivial⟩ ?_
  intro vs4 own v4 hB4 hs4 kn inj
  clear inj hs4 go hB
  obtain ⟨k1, k2, -⟩ := kn
  obtain ⟨e11, hb11, _⟩ := k1
  change vs4 11 = _ at e11
  have gM : ArrAt v4 (own 17) .u8 42 16 (digN (markN (onceK key nonce) (txt (marked under beside)) (marked under beside).size)) := obAt k2
  clear k2
  simp only [putAll, Act.put, List.setIfInBounds_toArray, List.set_cons_zero, List.set_cons_succ, e11]
  generalize own 17 = b11 at *
  have hcv : (convert 25 9 (.slice (some ⟨b11, 0, none⟩) 16 16)).run Try.prog v4 = .ok (.string (markT key nonce under beside)) v4 := str_back 16 b11 16 v4 16 _ gM.row (fun j _ => digN_b _ j) rfl
  go_wp2_with fail
  go_ret
  exact ⟨rfl, hB4⟩
end Go.Proofs.Ytfkgfojofdachaa
/-
  Own text. What lowestFirst and filling of package aead answer.
-/
namespace Go.Proofs.Ytfkgfojofdachaa
open Go.RowKit Go.Proofs
set_option maxRecDepth 100000
theorem shr_at (n : Int) (i : Nat) (hi : i < 8) (w : World) : (binOp .shr 36 (.int .u64 n) (.int .i64 (8 * (i : Int)))).run Try.prog w = .ok (.int .u64 (n / 256 ^ i)) w := by
  match i, hi with
  | 0, _ => simp [go_sem]
  | 1, _ => simp [go_sem]
  | 2, _ => simp [go_sem]
  | 3, _ => simp [go_sem]
  | 4, _ => simp [go_sem]
  | 5, _ => simp [go_sem]
  | 6, _ => simp [go_sem]
  | 7, _ => simp [go_sem]
theorem exec_shrA {a : Act} {o : Oper} {w : World} {x y : Operand} (ho : o.op = .binOp .shr 36 x y 3) {n : Int} {i : Nat} (hx : a.eval x = .int .u64 n) (hy : a.eval y = .int .i64 (8 * (i : Int))) (hi : i < 8) : (execOp a.eval o).run Try.prog w = .ok (.value (.int .u64 (n / 256 ^ i))) w := exec_bin2 ho hx hy rfl (shr_at n i hi w)
set_option maxHeartbeats 4000000 in
theorem lowest_run (n : Int) (w : World) :
    Calls Try.prog 28 #[.int .u64 n] w fun e w' => e = .returned (.agg (WA .u8 8 (digN n))) ∧ Below w.heap.size w w' := by
  have g0 : ArrAt ((w.alloc (.cells (WA .u8 8 fun _ => 0) 47)).alloc (.cells (WA .u8 8 fun _ => 0) 47)) w.heap.size .u8 47 8 (fun _ => 0) := heap_alloc2_old w _ _
  have g1 : ArrAt ((w.alloc (.cells (WA .u8 8 fun _ => 0) 47)).alloc (.cells (WA .u8 8 fun _ => 0) 47)) (w.heap.size + 1) .u8 47 8 (fun _ => 0) := heap_alloc2_new w _ _
  have hB : Below w.heap.size w ((w.alloc (.cells (WA .u8 8 fun _ => 0) 47)).alloc (.cells (WA .u8 8 fun _ => 0) 47)) := ((Below.refl _ w).alloc (by simp) _).alloc (by simp) _
  go_enter Try.func28, Try.ntmps28
  go_wp2_with fail
  go_loopg [5] 8 (fun gm iv v => ∃ i : Nat, Hid (gm + i = 8) ∧ iv = .int .i64 (i : Int) ∧ ArrAt v w.heap.size .u8 47 8 (fun _ => 0) ∧ ArrAt v (w.heap.size + 1) .u8 47 8 (fun j => if j < i then digN n j else 0) ∧ Below w.heap.size w v)
  case atStart => exact ⟨0, Hid.mk rfl, rfl, g0, g1.congr (fun j _ => by rw [if_neg (by omega)]), hB⟩
  case round =>
    clear g0 g1 hB
    obtain ⟨i, HI, rfl, g0, g1, hB⟩ := hrel
    have hi8 : i ≤ 8 := by have := HI.out; omega
    by_cases hil : i < 8
    · have c0 := g1.cell i hil
      have f0 := g1.free i
      have g2 := Hid.mk ((g1.set i (n / 256 ^ i % 256) hil).congr (s' := fun j => if j < i + 1 then digN n j else 0) (fun j _ => by
        unfold upd
        by_cases e : j = i
        · subst e; rw [if_pos rfl, if_pos (by omega)]; rfl
        · rw [if_neg e]
          show (if j < i then digN n j else 0) = _
          by_cases h : j < i
          · rw [if_pos h, if_pos (by omega)]
          · rw [if_neg h, if_neg (by omega)]))
      have g3 := Hid.mk (g0.only (only_set (w := wr) (g := w.heap.size + 1) (i := i) (v := .int .u8 (n / 256 ^ i % 256))) (by omega))
      go_wp2_with (refine wl_value rfl (exec_shrA rfl (by rfl) (by rfl) hil) ?_)
      generalize n / 256 ^ i = q at *
      go_wp2_with fail
      go_roundg (8 - (i + 1))
      case rel => exact ⟨i + 1, Hid.mk (by omega), by go_num, g3.out, g2.out, Below.setCell (p := ⟨w.heap.size + 1, i, none⟩) hB (by simp) _⟩
      case measure => have := HI.out; omega
    · have hi2 : i = 8 := by omega
      subst hi2
      replace g1 := g1.congr (s' := digN n) (fun j hj => by rw [if_pos hj])
      go_wp2_with (first | (refine ld_arr isArr8 g1 (by rfl) ?_) | (refine st_arr isArr8 g0 (by rfl) (by rfl) ?_; intro v4 g4 o4; refine Hid.out ?_))
      refine Hid.mk ?_
      go_wp2_with fail
      exact bodyPost_ret (res_arr Try.results28 isArr8 g4 (by rfl)) rfl ⟨rfl, hB.trans (o4.below (Nat.le_refl _))⟩
/-- What fills a text up to a multiple of 16. -/
def fillZ (s : ByteArray) : ByteArray := mkS ((16 - s.size % 16) % 16) (fun _ => 0)
theorem padZ_eq (s : ByteArray) : padZ s = s ++ fillZ s := rfl
theorem zeros_cut : ∀ n, n < 16 → (⟨#[0, 0, 0, 0, 0, 0, 0, 0, 0, 0, 0, 0, 0, 0, 0, 0]⟩ : ByteArray).extract n 16 = mkS (16 - n) (fun _ => 0) := by decide +kernel
set_option maxHeartbeats 4000000 in
theorem filling_run (s : ByteArray) (w : World) (hs : s.size ≤ 1152921504606846976) :
    Calls Try.prog 36 #[.string s] w fun e w' => e = .returned (.string (fillZ s)) ∧ Below w.heap.size w w' := by
  obtain ⟨k, hk⟩ : ∃ k, s.size % 16 = k := ⟨_, rfl⟩
  have hk16 : k < 16 := by omega
  have h1 : (s.size : Int).tmod 16 = (k : Int) := by rw [Int.tmod_eq_emod_of_nonneg (by omega)]; omega
  have h1e : (s.size : Int) % 16 = (k : Int) := by omega
  by_cases hz : k = 0
  · have HE : Hid (fillZ s = ByteArray.empty) := Hid.mk (by unfold fillZ; rw [hk, hz]; rfl)
    subst hz
    go_enter Try.func36, Try.ntmps36
    go_wp2_with fail
    rw [HE.out]
    go_ret
    exact ⟨rfl, Below.refl _ _⟩
  · have HE : Hid (fillZ s = mkS (16 - k) (fun _ => 0)) := Hid.mk (by unfold fillZ; rw [hk, Nat.mod_eq_of_lt (by omega)])
    have hkI : ¬ (k : Int) = 0 := by omega
    go_enter Try.func36, Try.ntmps36
    go_wp2_with (refine wl_value rfl (exec_slL (v := .string ⟨#[0, 0, 0, 0, 0, 0, 0, 0, 0, 0, 0, 0, 0, 0, 0, 0]⟩) (u := .int .i64 (k : Int)) rfl (by rfl) (by rfl) (strL _ k _ (by show k ≤ 16; omega))) ?_)
    rw [HE.out]
    go_ret
    exact ⟨congrArg (fun x => Ending.returned (.string x)) (zeros_cut k hk16), Below.refl _ _⟩
end Go.Proofs.Ytfkgfojofdachaa
/-
  Own text. What keyOfMark of package aead answers; parts of arrays.
-/
namespace Go.Proofs.Ytfkgfojofdachaa
open Go.RowKit Go.Proofs
set_option maxRecDepth 100000
theorem arr_range {w : World} {b n : Nat} {t : TypeId} {s : Nat → Int} (h : ArrAt w b .u8 t n s) (f m : Nat) (hf : f + m ≤ n) : w.rangeAt b f (nums .u8 m fun j => s (f + j)) := fun j v hv => by
  obtain ⟨hj, rfl⟩ := nums_get hv
  exact h.cell (f + j) (by omega)
theorem exec_part {a : Act} {o : Oper} {w : World} {x : Operand} {ty t : TypeId} {b n m : Nat} {s : Nat → Int} (f : Nat) (ho : o.op = .load ty x) (hA : IsArr ty m) (hg : ArrAt w b .u8 t n s) (hf : f + m ≤ n) (hx : a.eval x = .pointer (some ⟨b, f, none⟩)) : (execOp a.eval o).run Try.prog w = .ok (.value (.agg (WA .u8 m fun j => s (f + j)))) w :=
  exec_ldmid ho hA hx (arr_range hg f m hf)
theorem exec_part0 {a : Act} {o : Oper} {w : World} {x : Operand} {ty t : TypeId} {b n m : Nat} {s : Nat → Int} (ho : o.op = .load ty x) (hA : IsArr ty m) (hg : ArrAt w b .u8 t n s) (hf : m ≤ n) (hx : a.eval x = .pointer (some ⟨b, 0, none⟩)) : (execOp a.eval o).run Try.prog w = .ok (.value (.agg (WA .u8 m s))) w :=
  exec_ldmid ho hA hx (fun j v hv => by
    obtain ⟨hj, rfl⟩ := nums_get hv
    rw [Nat.zero_add]
    exact hg.cell j (by omega))
theorem exec_toarr {a : Act} {o : Oper} {w : World} {x : Operand} {t : TypeId} (ho : o.op = .sliceToArrayPointer t x) {v r : Value} (hx : a.eval x = v) (hr : (Instr.arrayAt t v).run Try.prog w = .ok r w) : (execOp a.eval o).run Try.prog w = .ok (.value r) w := by
  unfold execOp
  simp [ho, hx, hr]
theorem toarr32 (b f cap : Nat) (w : World) : (Instr.arrayAt 22 (.slice (some ⟨b, f, none⟩) 32 cap)).run Try.prog w = .ok (.pointer (some ⟨b, f, none⟩)) w := by simp [go_sem, Instr.arrayAt]
set_option maxHeartbeats 4000000 in
theorem keyOfMark_run (key nonce : Nat → Int) (w : World) (hk : Byts 32 key) (hn : Byts 12 nonce) :
    Calls Try.prog 38 #[.agg (WA .u8 32 key), .agg (WA .u8 12 nonce)] w fun e w' => e = .returned (.agg (WA .u8 32 (onceK key nonce))) ∧ Below w.heap.size w w' := by
  have g0 : ArrAt (((w.alloc (.cells (WA .u8 32 key) 22)).alloc (.cells (WA .u8 12 nonce) 24)).alloc (.cells (WA .u8 32 fun _ => 0) 22)) w.heap.size .u8 22 32 key := heap_a31 w _ _ _
  have g1 : ArrAt (((w.alloc (.cells (WA .u8 32 key) 22)).alloc (.cells (WA .u8 12 nonce) 24)).alloc (.cells (WA .u8 32 fun _ => 0) 22)) (w.heap.size + 1) .u8 24 12 nonce := heap_a32 w _ _ _
  have g2 : ArrAt (((w.alloc (.cells (WA .u8 32 key) 22)).alloc (.cells (WA .u8 12 nonce) 24)).alloc (.cells (WA .u8 32 fun _ => 0) 22)) (w.heap.size + 1 + 1) .u8 22 32 (fun _ => 0) := heap_a3 w _ _ _
  have hB : Below w.heap.size w (((w.alloc (.cells (WA .u8 32 key) 22)).alloc (.cells (WA .u8 12 nonce) 24)).alloc (.cells (WA .u8 32 fun _ => 0) 22)) := (((Below.refl _ w).alloc (by simp) _).alloc (by simp) _).alloc (by simp; omega) _
  go_enter Try.func38, Try.ntmps38
  go_wp2_with (first | (refine ld_arr isArr32 g0 (by rfl) ?_) | (refine ld_arr isArr12 g1 (by rfl) ?_))
  refine (Block_run key nonce 0 _ hk hn (by unfold W32; omega)).mono ?_
  rintro e v2 ⟨rfl, hb2⟩
  replace hB := hB.trans (hb2.mono hB.size)
  have hz : w.heap.size + 1 + 1 < v2.heap.size := (g2.kept hb2).lt
  replace g2 := (g2.kept hb2)
  clear hb2 g0 g1
  have gn := fun o (ho : o = Obj.cells (WA .u8 64 fun _ => 0) 57 (0, 0)) => (by rw [ho]; exact heap_alloc_new v2 _ : ArrAt (v2.alloc o) v2.heap.size .u8 57 64 (fun _ => 0))
  have hBS := hB.size
  go_wp2_with (refine st_arr isArr64 (gn _ rfl) (by rfl) (by rfl) ?_; intro v3 gb o3; refine Hid.out ?_)
  replace hB := (hB.alloc hBS _).trans (o3.below hBS)
  replace g2 := (g2.alloc _).only o3 (by omega)
  clear o3 gn
  refine Hid.mk ?_
  go_wp2_with (first | (refine wl_value rfl (exec_toarr rfl (by rfl) (toarr32 _ 0 64 _)) ?_) | (refine wl_value rfl (exec_part0 rfl isArr32 gb (by omega) (by rfl)) ?_) | (refine st_arr isArr32 g2 (by rfl) (by rfl) ?_; intro v4 g4 o4; refine Hid.out ?_))
  refine Hid.mk ?_
  go_wp2_with fail
  have hE : WA .u8 32 (blk (ssq key 0 nonce 3)) = WA .u8 32 (onceK key nonce) := WA_congr (fun j hj => by
    unfold onceK over
    rw [if_pos (by omega), Nat.sub_zero])
  exact bodyPost_ret (res_arr Try.results38 isArr32 g4 (by rfl)) rfl ⟨by rw [hE], hB.trans (o4.below (by omega))⟩
end Go.Proofs.Ytfkgfojofdachaa
/-
  Own text. Slices of texts that grow; steps over them.
-/
namespace Go.Proofs.Ytfkgfojofdachaa
open Go.RowKit Go.Proofs
set_option maxRecDepth 100000
def strW (n : Nat) (ts : Nat → ByteArray) : List Value := (List.range n).map fun i => .string (ts i)
theorem strW_len (n : Nat) (ts : Nat → ByteArray) : (strW n ts).length = n := by simp [strW]
theorem strW_at (n : Nat) (ts : Nat → ByteArray) {j : Nat} (h : j < n) : (strW n ts)[j]? = some (.string (ts j)) := by simp [strW, h]
theorem strW_get {n : Nat} {ts : Nat → ByteArray} {j : Nat} {u : Value} (h : (strW n ts)[j]? = some u) : j < n ∧ u = .string (ts j) := by
  have hj : j < n := by have := (List.getElem?_eq_some_iff.1 h).1; simpa [strW] using this
  refine ⟨hj, ?_⟩
  rw [strW_at n ts hj] at h
  exact (Option.some.inj h).symm
theorem strW_one {n : Nat} {ts : Nat → ByteArray} : ∀ u ∈ strW n ts, u.oneCell' = true := fun u hu => by
  obtain ⟨i, _, rfl⟩ := List.mem_map.1 hu
  rfl
theorem infoStr : (Try.prog.info? 9).map (fun i => (i.zero, i.size, i.bytes)) = some (some (.string ⟨#[]⟩), 1, 16) := by kernel_rfl
theorem run_append_none {w : World} {B : Nat} {v : Value} {n : Nat} {xs : List Value} (ty : TypeId) (c : Nat) (hown : w.ownsRow B 9 1 v n xs) : (Builtin.append_ #[65, 65] ty #[v, .slice none 0 c]).run Try.prog w = .ok v w := by
  obtain ⟨i, hi, _⟩ := info_parts infoStr
  rcases hown.2 with ⟨rfl, rfl⟩ | ⟨g, cap, cur, rfl, _, _, hnc, _⟩
  · simp [Builtin.append_, run_underlying Try.underlying65, sizeOf, typeInfo, hi, Builtin.lenOf, Builtin.firstCells]
  · simp [Builtin.append_, run_underlying Try.underlying65, sizeOf, typeInfo, hi, Builtin.lenOf, Builtin.firstCells, hnc, storeCells]
/-- 'append(x, ..)' of texts to a row of one's own. -/
theorem ap_strs {ops : Array Oper} {rest : List Oper} {d : Option Tmp} {s x : Operand} {ty : TypeId} {ps : String} {af : Array Edge} {a : Act} {w : World} {Q : Exit → Act → World → Prop}
    {B k n : Nat} {xs : List Value} {v0 vx : Value} {ts : Nat → ByteArray} (hs : a.eval s = v0) (hx : a.eval x = vx) (hD : w.ownsRow B 9 1 v0 k xs) (hS : Strs w vx n ts) (hl : k + n < 4000000) (hB : B ≤ w.heap.size)
    (h : ∀ v' w', w'.ownsRow B 9 1 v' (k + n) (xs ++ strW n ts) → Below B w w' → wpList Try.prog ops Q rest (a.put d v') w') :
    wpList Try.prog ops Q ({ dst := d, op := .call { callee := .builtin .append, args := #[s, x], argTypes := #[65, 65] }, type := ty, pos := ps, after := af, guard := none } :: rest) a w := by
  obtain ⟨ad, c, rfl, hp⟩ := hS
  cases ad with
  | none =>
    have hn : n = 0 := by
      rcases Nat.eq_zero_or_pos n with h0 | h0
      · exact h0
      · obtain ⟨p, hp1, _⟩ := hp h0
        cases hp1
    subst hn
    refine wpList_plain rfl fun K hK => ?_
    have hrun := run_append_none ty c hD
    unfold Oper.wp
    simp [execOp, resolve, invoke, builtin, hs, hx, hrun, Result.andThen]
    exact hK _ _ (h v0 w (by simpa [strW] using hD) (Below.refl _ _))
  | some p =>
    obtain ⟨i0, hi, hz0, hz1, hz2⟩ := info_parts infoStr
    refine wpList_append_own w rfl s x 65 rfl B 9 i0 (.string ⟨#[]⟩) 1 16 Try.underlying65 hi hz0 hz1 hz2 rfl (by decide) _ k _ hs hD p n c (strW n ts) hx (by rw [strW_len]; omega) ?_ strW_one ?_ ?_ hB ?_
    · intro j u hj
      obtain ⟨hj2, rfl⟩ := strW_get hj
      obtain ⟨q, hq, hc⟩ := hp (by omega)
      obtain rfl := Option.some.inj hq
      exact hc j hj2
    · unfold maxLen; omega
    · omega
    · intro v' w1 hown hgrow _
      exact h v' w1 hown (Below.grow hgrow hB (own_base hD))
/-- The row of texts behind the appends. -/
theorem own_strs {w : World} {B : Nat} {v : Value} {n : Nat} {ts : Nat → ByteArray} {q : ByteArray} (h : w.ownsRow B 9 1 v (n + 1) (strW n ts ++ [.string q])) : ∃ g cap cur, v = .slice (some ⟨g, 0, none⟩) (n + 1) cap ∧ B ≤ g ∧ n + 1 ≤ cap ∧ w.heap[g]? = some (.cells cur 9 (0, 0)) ∧ (∀ j, j < n → cur[j]? = some (.string (ts j))) ∧ cur[n]? = some (.string q) := by
  rcases h.2 with ⟨_, h0⟩ | ⟨g, cap, cur, rfl, hb, hg, hc, _, hs, ht⟩
  · omega
  · rw [Nat.mul_one] at ht
    have key : ∀ j, j < n + 1 → cur[j]? = (strW n ts ++ [.string q])[j]? := fun j hj => by
      rw [← ht, List.getElem?_take, if_pos hj]
      simp
    refine ⟨g, cap, cur, rfl, hb, hc, hg, fun j hj => ?_, ?_⟩
    · rw [key j (by omega), List.getElem?_append_left (by rw [strW_len]; exact hj), strW_at n ts hj]
    · rw [key n (by omega), List.getElem?_append_right (by rw [strW_len]; exact Nat.le_refl _), strW_len]
      simp
theorem strs_row' {w : World} {g n cap : Nat} {cur : Array Value} {ts : Nat → ByteArray} (h : w.heap[g]? = some (.cells cur 9 (0, 0))) (hc : ∀ j, j < n → cur[j]? = some (.string (ts j))) : Strs w (.slice (some ⟨g, 0, none⟩) n cap) n ts :=
  ⟨_, _, rfl, fun _ => ⟨_, rfl, fun j hj => by
    rw [Addr.add_lit, cell_of_row w g _ _ _ _ h, Nat.zero_add]
    exact hc j hj⟩⟩
theorem exec_lenV {a : Act} {o : Oper} {w : World} {x : Operand} (ho : o.op = .call { callee := .builtin .len, args := #[x], argTypes := #[65] }) {ad : Option Addr} {n c : Nat} (hx : a.eval x = .slice ad n c) : (execOp a.eval o).run Try.prog w = .ok (.value (.int .i64 (n : Int))) w := by
  have hr : (Builtin.len_ #[65] o.type #[.slice ad n c]).run Try.prog w = .ok (goInt n) w := by simp [go_sem]
  simp [execOp, ho, resolve, invoke, builtin, hx, hr, goInt]
theorem size_str (w : World) : (sizeOf (Try.prog.elem 65)).run Try.prog w = .ok 1 w := by kernel_rfl
theorem load_str {w : World} {p : Addr} {s : ByteArray} (h : w.cell? p = some (.string s)) : (Instr.loadAt 9 (.pointer (some p))).run Try.prog w = .ok (.string s) w := by
  simp [go_sem, h]
theorem exec_eqS {a : Act} {o : Oper} {w : World} {x y : Operand} (ho : o.op = .binOp .eql 9 x y 9) {s : ByteArray} (hx : a.eval x = .string s) (hy : a.eval y = .string s) : (execOp a.eval o).run Try.prog w = .ok (.value (.bool true)) w := exec_bin2 ho hx hy rfl (by simp [go_sem])
theorem slStr (ad : Option Addr) (n m c : Nat) (w : World) (h : n ≤ c) : (Instr.sliceAt 65 (.slice ad m c) none (some (.int .i64 (n : Int))) none).run Try.prog w = .ok (.slice ad n c) w := by
  have h2 : (n : Int) ≤ (c : Int) := by omega
  cases ad <;> simp [go_sem, h2]
theorem run_bs0 (w : World) : (Instr.buildSlice 65 0 #[]).run Try.prog w = .ok (.slice (some ⟨w.heap.size, 0, none⟩) 0 0) (w.alloc (.cells #[] 9)) := by simp [go_sem]
theorem wl_bs0 {ops : Array Oper} {rest : List Oper} {d : Option Tmp} {ty : TypeId} {ps : String} {af : Array Edge} {a : Act} {w : World} {Q : Exit → Act → World → Prop}
    (h : ∀ w2, w2.ownsRow w.heap.size 9 1 (.slice (some ⟨w.heap.size, 0, none⟩) 0 0) 0 [] → Below w.heap.size w w2 → wpList Try.prog ops Q rest (a.put d (.slice (some ⟨w.heap.size, 0, none⟩) 0 0)) w2) :
    wpList Try.prog ops Q ({ dst := d, op := .buildSlice 65 0 #[], type := ty, pos := ps, after := af, guard := none } :: rest) a w := by
  have hr := run_bs0 w
  refine wl_act rfl ?_
  unfold Oper.wp execOp
  simp only [List.map_toArray, List.map_nil, Sem.run_bind, hr, Result.andThen_ok, Sem.run_pure, Oper.upon]
  exact h _ (World.ownsRow_lit w #[] 0 (Nat.le_refl _) (by unfold maxLen; omega) rfl) ((Below.refl _ _).alloc (Nat.le_refl _) _)
theorem wl_bs1 {ops : Array Oper} {rest : List Oper} {d : Option Tmp} {x : Operand} {ty : TypeId} {ps : String} {af : Array Edge} {a : Act} {w : World} {Q : Exit → Act → World → Prop} {s : ByteArray} (hx : a.eval x = .string s)
    (h : ∀ w2, Strs w2 (.slice (some ⟨w.heap.size, 0, none⟩) 1 1) 1 (one1 s) → Below w.heap.size w w2 → w2.heap.size = w.heap.size + 1 → wpList Try.prog ops Q rest (a.put d (.slice (some ⟨w.heap.size, 0, none⟩) 1 1)) w2) :
    wpList Try.prog ops Q ({ dst := d, op := .buildSlice 65 1 #[(0, x)], type := ty, pos := ps, after := af, guard := none } :: rest) a w := by
  have hr := run_bs1 s w
  refine wl_act rfl ?_
  unfold Oper.wp execOp
  simp only [List.map_toArray, List.map_cons, List.map_nil, hx, Sem.run_bind, hr, Result.andThen_ok, Sem.run_pure, Oper.upon]
  exact h _ (strs1 (heap_alloc_new w _)) ((Below.refl _ _).alloc (Nat.le_refl _) _) (by simp)
theorem wl_bs2 {ops : Array Oper} {rest : List Oper} {d : Option Tmp} {x y : Operand} {ty : TypeId} {ps : String} {af : Array Edge} {a : Act} {w : World} {Q : Exit → Act → World → Prop} {s t : ByteArray} (hx : a.eval x = .string s) (hy : a.eval y = .string t)
    (h : ∀ w2, Strs w2 (.slice (some ⟨w.heap.size, 0, none⟩) 2 2) 2 (two2 s t) → Below w.heap.size w w2 → w2.heap.size = w.heap.size + 1 → wpList Try.prog ops Q rest (a.put d (.slice (some ⟨w.heap.size, 0, none⟩) 2 2)) w2) :
    wpList Try.prog ops Q ({ dst := d, op := .buildSlice 65 2 #[(0, x), (1, y)], type := ty, pos := ps, after := af, guard := none } :: rest) a w := by
  have hr := run_bs2 s t w
  refine wl_act rfl ?_
  unfold Oper.wp execOp
  simp only [List.map_toArray, List.map_cons, List.map_nil, hx, hy, Sem.run_bind, hr, Result.andThen_ok, Sem.run_pure, Oper.upon]
  exact h _ (strs2 (heap_alloc_new w _)) ((Below.refl _ _).alloc (Nat.le_refl _) _) (by simp)
end Go.Proofs.Ytfkgfojofdachaa
/-
  Own text. What markOf of package aead answers.
-/
namespace Go.Proofs.Ytfkgfojofdachaa
open Go.RowKit Go.Proofs
set_option maxRecDepth 100000
/-- The pieces that are marked. -/
def pc6 (ps : Nat → ByteArray) (j : Nat) : ByteArray := if j < 4 then (if j % 2 = 0 then ps (j / 2) else fillZ (ps (j / 2))) else mkS 8 (digN ((ps (j - 4)).size : Int))
theorem join6 (under beside : ByteArray) : joinB (pc6 (two2 beside under)) 6 = marked under beside := by
  simp [joinB, pc6, two2, marked, padZ_eq, ByteArray.append_assoc]
theorem strW_app {k n : Nat} {ts ts' : Nat → ByteArray} (h : ∀ j, j < n → ts' j = ts (k + j)) : strW k ts ++ strW n ts' = strW (k + n) ts := by
  unfold strW
  rw [List.range_add, List.map_append, List.map_map]
  congr 1
  refine List.map_congr_left (fun j hj => ?_)
  simp [h j (List.mem_range.1 hj)]
theorem own_Strs {w : World} {B : Nat} {v : Value} {n : Nat} {ts : Nat → ByteArray} (h : w.ownsRow B 9 1 v n (strW n ts)) (hn : 0 < n) : Strs w v n ts := by
  rcases h.2 with ⟨_, h0⟩ | ⟨g, cap, cur, rfl, hb, hg, hc, _, hs, ht⟩
  · omega
  · refine strs_row' hg (fun j hj => ?_)
    rw [Nat.mul_one] at ht
    have e : cur[j]? = (strW n ts)[j]? := by
      rw [← ht, List.getElem?_take, if_pos hj]
      simp
    rw [e, strW_at n ts hj]
theorem pc6_even (ps : Nat → ByteArray) (i : Nat) (hi : i < 2) : ∀ j, j < 2 → two2 (ps i) (fillZ (ps i)) j = pc6 ps (2 * i + j) := fun j hj => by
  unfold pc6
  rw [if_pos (by omega)]
  match j, hj with
  | 0, _ => rw [if_pos (by omega), show (2 * i + 0) / 2 = i by omega]; rfl
  | 1, _ => rw [if_neg (by omega), show (2 * i + 1) / 2 = i by omega]; rfl
theorem pc6_len (ps : Nat → ByteArray) (i : Nat) : ∀ j, j < 1 → one1 (mkS 8 (digN ((ps i).size : Int))) j = pc6 ps (4 + i + j) := fun j hj => by
  obtain rfl : j = 0 := by omega
  unfold pc6
  rw [if_neg (by omega), show 4 + i + 0 - 4 = i by omega]
  rfl
set_option maxHeartbeats 8000000 in
theorem markOf_run (key nonce : Nat → Int) (pv : Value) (ps : Nat → ByteArray) (w : World) (hk : Byts 32 key) (hn : Byts 12 nonce) (hv : Strs w pv 2 ps) (hps : ∀ j, j < 2 → (ps j).size ≤ 1152921504606846976) :
    Calls Try.prog 22 #[.agg (WA .u8 32 key), .agg (WA .u8 12 nonce), pv] w fun e w' => e = .returned (.agg (WA .u8 16 (digN (markN (onceK key nonce) (txt (joinB (pc6 ps) 6)) (joinB (pc6 ps) 6).size)))) ∧ Below w.heap.size w w' := by
  have g0 : ArrAt (((w.alloc (.cells (WA .u8 32 key) 22)).alloc (.cells (WA .u8 12 nonce) 24)).alloc (.cells (WA .u8 16 fun _ => 0) 42)) w.heap.size .u8 22 32 key := heap_a31 w _ _ _
  have g1 : ArrAt (((w.alloc (.cells (WA .u8 32 key) 22)).alloc (.cells (WA .u8 12 nonce) 24)).alloc (.cells (WA .u8 16 fun _ => 0) 42)) (w.heap.size + 1) .u8 24 12 nonce := heap_a32 w _ _ _
  have g2 : ArrAt (((w.alloc (.cells (WA .u8 32 key) 22)).alloc (.cells (WA .u8 12 nonce) 24)).alloc (.cells (WA .u8 16 fun _ => 0) 42)) (w.heap.size + 1 + 1) .u8 42 16 (fun _ => 0) := heap_a3 w _ _ _
  have hB : Below w.heap.size w (((w.alloc (.cells (WA .u8 32 key) 22)).alloc (.cells (WA .u8 12 nonce) 24)).alloc (.cells (WA .u8 16 fun _ => 0) 42)) := (((Below.refl _ w).alloc (by simp) _).alloc (by simp) _).alloc (by simp; omega) _
  have hv0 := hv.below hB
  obtain ⟨pa, pcp, rfl, _⟩ := hv
  go_enter Try.func22, Try.ntmps22
  go_wp2_with fail
  obtain ⟨u, hu⟩ : ∃ u, u = (((w.alloc (.cells (WA .u8 32 key) 22)).alloc (.cells (WA .u8 12 nonce) 24)).alloc (.cells (WA .u8 16 fun _ => 0) 42)) := ⟨_, rfl⟩
  rw [← hu] at g0 g1 g2 hB hv0
  go_loopg [7, 15] 2 (fun gm sv iv v => ∃ i : Nat, Hid (gm + i = 2) ∧ iv = .int .i64 (i : Int) ∧ v.ownsRow u.heap.size 9 1 sv (2 * i) (strW (2 * i) (pc6 ps)) ∧ Below u.heap.size u v)
  case atStart => exact ⟨0, Hid.mk rfl, rfl, World.ownsRow_nil _ _ _ _, by rw [hu]; exact Below.refl _ _⟩
  case round =>
    clear hu
    obtain ⟨i, HI, rfl, hO, hb⟩ := hrel
    have hin : i ≤ 2 := by have := HI.out; omega
    by_cases hil : i < 2
    · obtain ⟨a', c', e, hp⟩ := hv0.below hb
      simp only [Value.slice.injEq] at e
      obtain ⟨rfl, _, rfl⟩ := e
      obtain ⟨p, rfl, hc⟩ := hp (by omega)
      have hc1 := hc i hil
      clear hc hp
      go_wp2_with fail
      refine (filling_run (ps i) _ (hps i hil)).mono ?_
      rintro e v1 ⟨rfl, hb1⟩
      replace hO := own_kept hO hb1
      replace hb := hb.trans (hb1.mono hb.size)
      clear hb1 hc1
      go_wp2_with (refine wl_bs2 (by rfl) (by rfl) ?_; intro v2 s2 hb2 hz2; refine Hid.out ?_)
      replace hO := own_kept hO hb2
      replace hb := hb.trans (hb2.mono hb.size)
      clear hb2 hz2
      have HBS := Hid.mk hb.size
      refine Hid.mk ?_
      go_wp2_with (refine ap_strs (by rfl) (by rfl) hO s2 (by omega) HBS.out ?_; intro v' v3 hO3 hb3; refine Hid.out ?_)
      rw [strW_app (pc6_even ps i hil)] at hO3
      replace hb := hb.trans hb3
      clear hO hb3 s2
      refine Hid.mk ?_
      go_wp2_with fail
      go_roundg (2 - (i + 1))
      case rel => exact ⟨i + 1, Hid.mk (by omega), by go_num, hO3, hb⟩
      case measure => have := HI.out; omega
    · have hi2 : i = 2 := by omega
      subst hi2
      go_wp2_with fail
      go_loopg [7, 28] 2 (fun gm sv iv v => ∃ i : Nat, Hid (gm + i = 2) ∧ iv = .int .i64 (i : Int) ∧ v.ownsRow u.heap.size 9 1 sv (4 + i) (strW (4 + i) (pc6 ps)) ∧ Below u.heap.size u v)
      case atStart => exact ⟨0, Hid.mk rfl, rfl, hO, hb⟩
      case round =>
        clear hO hb HI hil hin
        obtain ⟨i, HI, rfl, hO, hb⟩ := hrel
        have hin : i ≤ 2 := by have := HI.out; omega
        by_cases hil : i < 2
        · obtain ⟨a', c', e, hp⟩ := hv0.below hb
          simp only [Value.slice.injEq] at e
          obtain ⟨rfl, _, rfl⟩ := e
          obtain ⟨p, rfl, hc⟩ := hp (by omega)
          have hc1 := hc i hil
          have hsz : 0 ≤ ((ps i).size : Int) ∧ ((ps i).size : Int) < 18446744073709551616 := by have := hps i hil; omega
          clear hc hp
          go_wp2_with (refine wl_value rfl (exec_conv rfl (by rfl) (conv_iu hsz _)) ?_)
          refine (lowest_run _ _).mono ?_
          rintro e v1 ⟨rfl, hb1⟩
          replace hO := own_kept hO hb1
          replace hb := hb.trans (hb1.mono hb.size)
          clear hb1 hc1
          have gn := fun o (ho : o = Obj.cells (WA .u8 8 fun _ => 0) 47 (0, 0)) => (by rw [ho]; exact heap_alloc_new v1 _ : ArrAt (v1.alloc o) v1.heap.size .u8 47 8 (fun _ => 0))
          have HBS := Hid.mk hb.size
          go_wp2_with (refine st_arr isArr8 (gn _ rfl) (by rfl) (by rfl) ?_; intro v2 gb o2; refine Hid.out ?_)
          have hb2 : Below v1.heap.size v1 v2 := ((Below.refl _ v1).alloc (Nat.le_refl _) _).trans (o2.below (Nat.le_refl _))
          replace hO := own_kept hO hb2
          replace hb := hb.trans (hb2.mono hb.size)
          clear hb2 o2 gn HBS
          have hcv := str_back 8 v1.heap.size 8 v2 8 (digN ((ps i).size : Int)) gb.row (fun j _ => digN_b _ j) rfl
          refine Hid.mk ?_
          go_wp2_with (refine wl_bs1 (by rfl) ?_; intro v3 s3 hb3 hz3; refine Hid.out ?_)
          replace hO := own_kept hO hb3
          replace hb := hb.trans (hb3.mono hb.size)
          clear hb3 hz3 hcv gb
          have HBS := Hid.mk hb.size
          refine Hid.mk ?_
          go_wp2_with (refine ap_strs (by rfl) (by rfl) hO s3 (by omega) HBS.out ?_; intro v' v4 hO4 hb4; refine Hid.out ?_)
          rw [strW_app (pc6_len ps i)] at hO4
          replace hb := hb.trans hb4
          clear hO hb4 s3
          refine Hid.mk ?_
          go_wp2_with fail
          go_roundg (2 - (i + 1))
          case rel => exact ⟨i + 1, Hid.mk (by omega), by go_num, hO4, hb⟩
          case measure => have := HI.out; omega
        · have hi2 : i = 2 := by omega
          subst hi2
          have gk := g0.kept hb
          have gq := g1.kept hb
          have gr := g2.kept hb
          have hSt := own_Strs hO (by omega)
          replace hB := hB.trans (hb.mono hB.size)
          clear hb hO g0 g1 g2
          go_wp2_with (first | (refine ld_arr isArr32 gk (by rfl) ?_) | (refine ld_arr isArr12 gq (by rfl) ?_))
          refine (keyOfMark_run key nonce _ hk hn).mono ?_
          rintro e v5 ⟨rfl, hb5⟩
          replace gr := gr.kept hb5
          replace hB := hB.trans (hb5.mono hB.size)
          replace hSt := hSt.below hb5
          clear hb5 gk gq
          go_wp2_with fail
          refine (Tag_run (onceK key nonce) _ 6 (pc6 ps) _ (onceK_b key nonce) hSt (by decide)).mono ?_
          rintro e v6 ⟨rfl, hb6⟩
          replace gr := gr.kept hb6
          replace hB := hB.trans (hb6.mono hB.size)
          clear hb6 hSt
          go_wp2_with (refine st_arr isArr16 gr (by rfl) (by rfl) ?_; intro v7 g7 o7; refine Hid.out ?_)
          refine Hid.mk ?_
          go_wp2_with fail
          exact bodyPost_ret (res_arr Try.results22 isArr16 g7 (by rfl)) rfl ⟨rfl, hB.trans (o7.below (by omega))⟩
end Go.Proofs.Ytfkgfojofdachaa
/-
  Own text. The document's answer for aead: Seal.
-/
namespace Go.Proofs.Ytfkgfojofdachaa
open Go.RowKit Go.Proofs
set_option maxRecDepth 100000
/-- A text under the stream. -/
def underT (key nonce : Nat → Int) (text : ByteArray) : ByteArray := mkS text.size (strm key nonce 1 text)
/-- A box. -/
def boxT (key nonce : Nat → Int) (text beside : ByteArray) : ByteArray := underT key nonce text ++ markT key nonce (underT key nonce text) beside
theorem underT_size (key nonce : Nat → Int) (text : ByteArray) : (underT key nonce text).size = text.size := mkS_size _ _
theorem markT_size (key nonce : Nat → Int) (under beside : ByteArray) : (markT key nonce under beside).size = 16 := mkS_size _ _
theorem boxT_size (key nonce : Nat → Int) (text beside : ByteArray) : (boxT key nonce text beside).size = text.size + 16 := by
  unfold boxT
  rw [ByteArray.size_append, underT_size, markT_size]
set_option maxHeartbeats 4000000 in
theorem rSeal_run (key nonce : Nat → Int) (text beside : ByteArray) (w : World) (hk : Byts 32 key) (hn : Byts 12 nonce) (ht : text.size ≤ 140737488355328) (hbs : beside.size ≤ 281474976710656) :
    Calls Try.prog 10 #[.agg (WA .u8 32 key), .agg (WA .u8 12 nonce), .string text, .string beside] w fun e w' => e = .returned (.string (boxT key nonce text beside)) ∧ Below w.heap.size w w' := by
  have g0 : ArrAt ((w.alloc (.cells (WA .u8 32 key) 22)).alloc (.cells (WA .u8 12 nonce) 24)) w.heap.size .u8 22 32 key := heap_alloc2_old w _ _
  have g1 : ArrAt ((w.alloc (.cells (WA .u8 32 key) 22)).alloc (.cells (WA .u8 12 nonce) 24)) (w.heap.size + 1) .u8 24 12 nonce := heap_alloc2_new w _ _
  have hB : Below w.heap.size w ((w.alloc (.cells (WA .u8 32 key) 22)).alloc (.cells (WA .u8 12 nonce) 24)) := ((Below.refl _ w).alloc (by simp) _).alloc (by simp) _
  have hS := fun w => rStream_run key nonce 1 text w hk hn (by unfold W32; omega) ht
  have hM := fun w => rmark_run key nonce (underT key nonce text) beside w hk hn (by rw [underT_size]; omega) hbs
  have HE : Hid (underT key nonce text ++ markT key nonce (underT key nonce text) beside = boxT key nonce text beside) := Hid.mk rfl
  have hL1 : (underT key nonce text).size + (markT key nonce (underT key nonce text) beside).size ≤ 9223372036854775807 := by rw [underT_size, markT_size]; omega
  change ∀ w, Calls _ _ _ w fun e w' => e = .returned (.string (underT key nonce text)) ∧ Below w.heap.size w w' at hS
  generalize markT key nonce (underT key nonce text) beside = m at *
  generalize underT key nonce text = u at *
  clear ht
  go_enter Try.func10, Try.ntmps10
  go_wp2_with (first | (refine ld_arr isArr32 g0 (by rfl) ?_) | (refine ld_arr isArr12 g1 (by rfl) ?_))
  refine (hS _).mono ?_
  rintro e v1 ⟨rfl, hb⟩
  replace g0 := g0.kept hb
  replace g1 := g1.kept hb
  replace hB := hB.trans (hb.mono hB.size)
  clear hb
  go_wp2_with (first | (refine ld_arr isArr32 g0 (by rfl) ?_) | (refine ld_arr isArr12 g1 (by rfl) ?_))
  refine (hM _).mono ?_
  rintro e v2 ⟨rfl, hb⟩
  replace hB := hB.trans (hb.mono hB.size)
  clear hb
  go_wp2_with (refine wl_value rfl (exec_catS rfl (by rfl) (by rfl) hL1) ?_)
  rw [HE.out]
  go_ret
  exact ⟨rfl, hB⟩
end Go.Proofs.Ytfkgfojofdachaa
/-
  Own text. The document's answer for aead: Open.
-/
namespace Go.Proofs.Ytfkgfojofdachaa
open Go.RowKit Go.Proofs
set_option maxRecDepth 100000
theorem enterRMark (args : Array Value) (w : World) : (callFunc 25 args).run Try.prog w = .ok (.enter 25 args) w := by kernel_rfl
theorem enterRStream (args : Array Value) (w : World) : (callFunc 24 args).run Try.prog w = .ok (.enter 24 args) w := by kernel_rfl
theorem exec_lssT0 {a : Act} {o : Oper} {w : World} {x y : Operand} (ho : o.op = .binOp .lss 3 x y 3) {m n : Int} (hx : a.eval x = .int .i64 m) (hy : a.eval y = .int .i64 n) (h : m < n) : (execOp a.eval o).run Try.prog w = .ok (.value (.bool true)) w := exec_bin ho rfl hx hy (by simp [go_sem, h])
theorem exec_lssF0 {a : Act} {o : Oper} {w : World} {x y : Operand} (ho : o.op = .binOp .lss 3 x y 3) {m n : Int} (hx : a.eval x = .int .i64 m) (hy : a.eval y = .int .i64 n) (h : n ≤ m) : (execOp a.eval o).run Try.prog w = .ok (.value (.bool false)) w := exec_bin ho rfl hx hy (by simp [go_sem]; omega)
theorem exec_neqST {a : Act} {o : Oper} {w : World} {x y : Operand} (ho : o.op = .binOp .neq 9 x y 9) {s t : ByteArray} (hx : a.eval x = .string s) (hy : a.eval y = .string t) (e : s ≠ t) : (execOp a.eval o).run Try.prog w = .ok (.value (.bool true)) w := exec_bin2 ho hx hy rfl (by simp [go_sem]; intro h; rw [ByteArray.toList_eq, ByteArray.toList_eq] at h; exact e (ByteArray.ext (Array.ext' h)))
theorem results_two {fn : Func} {p q : Tmp} (h : fn.results = #[.tmp p, .tmp q]) {tmps : Array Value} {w : World} {u v : Value} (hp : tmps.getD p undef = u) (hq : tmps.getD q undef = v) : (results fn tmps).run Try.prog w = .ok (.tuple #[u, v]) w := by
  have hp' : tmps[p]?.getD undef = u := by simpa using hp
  have hq' : tmps[q]?.getD undef = v := by simpa using hq
  simp [results, h, hp', hq']
/-- What opening answers: the text and 0, or nothing and 13. -/
def openT (key nonce : Nat → Int) (box beside : ByteArray) : ByteArray × Int :=
  if 16 ≤ box.size ∧ box.extract (box.size - 16) box.size = markT key nonce (box.extract 0 (box.size - 16)) beside then (underT key nonce (box.extract 0 (box.size - 16)), 0) else (ByteArray.empty, 13)
set_option maxHeartbeats 8000000 in
theorem rOpen_run (key nonce : Nat → Int) (box beside : ByteArray) (w : World) (hk : Byts 32 key) (hn : Byts 12 nonce) (ht : box.size ≤ 140737488355328) (hbs : beside.size ≤ 281474976710656) :
    Calls Try.prog 15 #[.agg (WA .u8 32 key), .agg (WA .u8 12 nonce), .string box, .string beside] w fun e w' => e = .returned (.tuple #[.string (openT key nonce box beside).1, .int .i64 (openT key nonce box beside).2]) ∧ Below w.heap.size w w' := by
  have g0 : ArrAt ((w.alloc (.cells (WA .u8 32 key) 22)).alloc (.cells (WA .u8 12 nonce) 24)) w.heap.size .u8 22 32 key := heap_alloc2_old w _ _
  have g1 : ArrAt ((w.alloc (.cells (WA .u8 32 key) 22)).alloc (.cells (WA .u8 12 nonce) 24)) (w.heap.size + 1) .u8 24 12 nonce := heap_alloc2_new w _ _
  have hB : Below w.heap.size w ((w.alloc (.cells (WA .u8 32 key) 22)).alloc (.cells (WA .u8 12 nonce) 24)) := ((Below.refl _ w).alloc (by simp) _).alloc (by simp) _
  by_cases h16 : 16 ≤ box.size
  · obtain ⟨n, hnn⟩ : ∃ n, box.size = n + 16 := ⟨box.size - 16, by omega⟩
    have hnI : (box.size : Int) - 16 = (n : Int) := by omega
    have hnw := i64_wrap (n := (n : Int)) (by omega) (by omega)
    have HNB : Hid (n ≤ box.size) := Hid.mk (by omega)
    have hU := take_size box n (by omega)
    have HMK : Hid (∀ ww : World, Calls Try.prog 25 #[.agg (WA .u8 32 key), .agg (WA .u8 12 nonce), .string (box.extract 0 n), .string beside] ww fun e w' => e = .returned (.string (markT key nonce (box.extract 0 n) beside)) ∧ Below ww.heap.size ww w') := Hid.mk (fun ww => rmark_run key nonce _ beside ww hk hn (by omega) hbs)
    have HST : Hid (∀ ww : World, Calls Try.prog 24 #[.agg (WA .u8 32 key), .int .u32 1, .agg (WA .u8 12 nonce), .string (box.extract 0 n)] ww fun e w' => e = .returned (.string (underT key nonce (box.extract 0 n))) ∧ Below ww.heap.size ww w') := Hid.mk (fun ww => rStream_run key nonce 1 _ ww hk hn (by unfold W32; omega) (by omega))
    have hsub : box.size - 16 = n := by omega
    by_cases heq : (box.extract n box.size) = markT key nonce (box.extract 0 n) beside
    · have HEQ := Hid.mk heq
      have HR : Hid (openT key nonce box beside = (underT key nonce (box.extract 0 n), 0)) := Hid.mk (by unfold openT; rw [hsub, if_pos ⟨h16, heq⟩])
      clear heq hsub hU hnn
      go_enter Try.func15, Try.ntmps15
      go_wp2_with fail
      refine wp_gen (fun v => ArrAt v w.heap.size .u8 22 32 key ∧ ArrAt v (w.heap.size + 1) .u8 24 12 nonce ∧ Below w.heap.size w v) ⟨g0, g1, hB⟩ ?_
      clear g0 g1 hB
      rintro v0 ⟨g0, g1, hB⟩
      have HG0 : Hid (∀ u, Below v0.heap.size v0 u → ArrAt u w.heap.size .u8 22 32 key) := Hid.mk (fun u hu => g0.kept hu)
      have HG1 : Hid (∀ u, Below v0.heap.size v0 u → ArrAt u (w.heap.size + 1) .u8 24 12 nonce) := Hid.mk (fun u hu => g1.kept hu)
      refine wp_region3 (Below v0.heap.size v0) v0.heap.size
          ([] : List (Nat × Cont))
          [kv (.int .i64 (n : Int)), kv (.bool false), kv (.bool false), kv (.string box), kv (.int .i64 (n : Int)), kv (.string (box.extract n box.size)), kv (.agg (WA .u8 32 key)), kv (.agg (WA .u8 12 nonce)), kv (.string box), kv (.int .i64 (n : Int)), kv (.string (box.extract 0 n)), kv (.string beside), kv (.string (markT key nonce (box.extract 0 n) beside)), kv (.bool false), kv (.bool false)]
          [.none, .none, .none, .none, .none, .none, .none, .none, .none, .none, .none, .none, .none, .none, .none]
          [some 14, some 15, some 16, some 17, some 18, some 19, some 20, some 21, some 22, some 23, some 24, some 25, some 26, some 27, some 28]
          [(10, .int .i64 (n : Int)), (2, .string box), (4, .pointer (some ⟨w.heap.size, 0, none⟩)), (5, .pointer (some ⟨(w.heap.size + 1), 0, none⟩)), (3, .string beside)]
          [[], [.slot 0], [.slot 1], [.slot 2], [.slot 2], [.slot 2, .slot 3, .slot 4], [.slot 2], [.slot 2], [.slot 2], [.slot 2], [.slot 2, .slot 8, .slot 9], [.slot 2], [.slot 2, .slot 6, .slot 7, .slot 10, .slot 11], [.slot 2, .slot 5, .slot 12], [.slot 2, .slot 13]]
          [.slot 14] [14, 15, 16, 17, 18, 19, 20, 21, 22, 23, 24, 25, 26, 27, 28]
          rfl (by kernel_rfl) ⟨rfl, rfl, rfl, rfl, rfl, trivial⟩ (Below.refl _ v0).drew (Nat.le_refl _) trivial trivial (below_G (Nat.le_refl _) trivial)
          ⟨
            -- 0
            (fun Q aq ww own hS hBg fr kn => .inl ⟨trivial, fun K hK => wp_value (exec_move rfl fr.1) (hK _ _ ⟨Touch.refl _ _, rfl⟩)⟩),
            -- 1
            (fun Q aq ww own hS hBg fr kn => .inl ⟨trivial, fun K hK => wp_value (exec_lssF0 rfl kn.1 rfl (by omega)) (hK _ _ ⟨Touch.refl _ _, rfl⟩)⟩),
            -- 2
            (fun Q aq ww own hS hBg fr kn => .inl ⟨trivial, fun K hK => wp_value (exec_move rfl kn.1) (hK _ _ ⟨Touch.refl _ _, rfl⟩)⟩),
            -- 3
            (fun Q aq ww own hS hBg fr kn => .inl ⟨kn.1, fun K hK => wp_value (exec_move rfl fr.2.1) (hK _ _ ⟨Touch.refl _ _, rfl⟩)⟩),
            -- 4
            (fun Q aq ww own hS hBg fr kn => .inl ⟨kn.1, fun K hK => wp_value (exec_move rfl fr.1) (hK _ _ ⟨Touch.refl _ _, rfl⟩)⟩),
            -- 5
            (fun Q aq ww own hS hBg fr kn => .inl ⟨kn.1, fun K hK => wp_value (exec_slL rfl kn.2.1 kn.2.2.1 (strL box n ww HNB.out)) (hK _ _ ⟨Touch.refl _ _, rfl⟩)⟩),
            -- 6
            (fun Q aq ww own hS hBg fr kn => .inl ⟨kn.1, fun K hK => wp_value (look_arr rfl isArr32 (HG0.out ww hS) fr.2.2.1) (hK _ _ ⟨Touch.refl _ _, rfl⟩)⟩),
            -- 7
            (fun Q aq ww own hS hBg fr kn => .inl ⟨kn.1, fun K hK => wp_value (look_arr rfl isArr12 (HG1.out ww hS) fr.2.2.2.1) (hK _ _ ⟨Touch.refl _ _, rfl⟩)⟩),
            -- 8
            (fun Q aq ww own hS hBg fr kn => .inl ⟨kn.1, fun K hK => wp_value (exec_move rfl fr.2.1) (hK _ _ ⟨Touch.refl _ _, rfl⟩)⟩),
            -- 9
            (fun Q aq ww own hS hBg fr kn => .inl ⟨kn.1, fun K hK => wp_value (exec_move rfl fr.1) (hK _ _ ⟨Touch.refl _ _, rfl⟩)⟩),
            -- 10
            (fun Q aq ww own hS hBg fr kn => .inl ⟨kn.1, fun K hK => wp_value (exec_slH rfl kn.2.1 kn.2.2.1 (strH box n ww HNB.out)) (hK _ _ ⟨Touch.refl _ _, rfl⟩)⟩),
            -- 11
            (fun Q aq ww own hS hBg fr kn => .inl ⟨kn.1, fun K hK => wp_value (exec_move rfl fr.2.2.2.2.1) (hK _ _ ⟨Touch.refl _ _, rfl⟩)⟩),
            -- 12
            (fun Q aq ww own hS hBg fr kn => .inl ⟨kn.1, fun K hK => stepc enterRMark rfl (args4 kn.2.1 kn.2.2.1 kn.2.2.2.1 kn.2.2.2.2.1) (HMK.out ww) (fun w' hb => hK _ _ ⟨touch_below hb, rfl⟩)⟩),
            -- 13
            (fun Q aq ww own hS hBg fr kn => .inl ⟨kn.1, fun K hK => wp_value (exec_neqS rfl kn.2.1 kn.2.2.1 HEQ.out) (hK _ _ ⟨Touch.refl _ _, rfl⟩)⟩),
            -- 14
            (fun Q aq ww own hS hBg fr kn => .inl ⟨trivial, fun K hK => wp_value (exec_pickF rfl kn.1 kn.2.1) (hK _ _ ⟨Touch.refl _ _, rfl⟩)⟩),
            trivial⟩ ?_
      intro vs own v5 hB5 hs5 kn inj
      clear inj hs5
      replace g0 := g0.kept hB5
      replace g1 := g1.kept hB5
      replace hB := hB.trans (hB5.mono hB.size)
      have e28 : vs 28 = .bool false := kn.1
      clear kn hB5 HG0 HG1
      simp only [putAll, Act.put, List.setIfInBounds_toArray, List.set_cons_zero, List.set_cons_succ, e28]
      go_wp2_with fail
      refine wp_gen (fun v => ArrAt v w.heap.size .u8 22 32 key ∧ ArrAt v (w.heap.size + 1) .u8 24 12 nonce ∧ Below w.heap.size w v) ⟨g0, g1, hB⟩ ?_
      clear g0 g1 hB
      rintro v0 ⟨g0, g1, hB⟩
      have HG0 : Hid (∀ u, Below v0.heap.size v0 u → ArrAt u w.heap.size .u8 22 32 key) := Hid.mk (fun u hu => g0.kept hu)
      have HG1 : Hid (∀ u, Below v0.heap.size v0 u → ArrAt u (w.heap.size + 1) .u8 24 12 nonce) := Hid.mk (fun u hu => g1.kept hu)
      refine wp_region3 (Below v0.heap.size v0) v0.heap.size
          ([] : List (Nat × Cont))
          [kv (.agg (WA .u8 32 key)), kv (.agg (WA .u8 12 nonce)), kv (.string box), kv (.int .i64 (n : Int)), kv (.string (box.extract 0 n)), kv (.string (underT key nonce (box.extract 0 n))), kv (.string (underT key nonce (box.extract 0 n))), kv (.int .i64 0)]
          [.none, .none, .none, .none, .none, .none, .none, .none]
          [some 29, some 30, some 31, some 32, some 33, some 34, some 8, some 9]
          [(4, .pointer (some ⟨w.heap.size, 0, none⟩)), (5, .pointer (some ⟨(w.heap.size + 1), 0, none⟩)), (2, .string box), (10, .int .i64 (n : Int))]
          [[], [], [], [], [.slot 2, .slot 3], [.slot 0, .slot 1, .slot 4], [.slot 5], []]
          [.slot 6, .slot 7] [29, 30, 31, 32, 33, 34, 8, 9]
          rfl (by kernel_rfl) ⟨rfl, rfl, rfl, rfl, trivial⟩ (Below.refl _ v0).drew (Nat.le_refl _) trivial trivial (below_G (Nat.le_refl _) trivial)
          ⟨
            -- 0
            (fun Q aq ww own hS hBg fr kn => .inl ⟨trivial, fun K hK => wp_value (look_arr rfl isArr32 (HG0.out ww hS) fr.1) (hK _ _ ⟨Touch.refl _ _, rfl⟩)⟩),
            -- 1
            (fun Q aq ww own hS hBg fr kn => .inl ⟨trivial, fun K hK => wp_value (look_arr rfl isArr12 (HG1.out ww hS) fr.2.1) (hK _ _ ⟨Touch.refl _ _, rfl⟩)⟩),
            -- 2
            (fun Q aq ww own hS hBg fr kn => .inl ⟨trivial, fun K hK => wp_value (exec_move rfl fr.2.2.1) (hK _ _ ⟨Touch.refl _ _, rfl⟩)⟩),
            -- 3
            (fun Q aq ww own hS hBg fr kn => .inl ⟨trivial, fun K hK => wp_value (exec_move rfl fr.2.2.2.1) (hK _ _ ⟨Touch.refl _ _, rfl⟩)⟩),
            -- 4
            (fun Q aq ww own hS hBg fr kn => .inl ⟨trivial, fun K hK => wp_value (exec_slH rfl kn.1 kn.2.1 (strH box n ww HNB.out)) (hK _ _ ⟨Touch.refl _ _, rfl⟩)⟩),
            -- 5
            (fun Q aq ww own hS hBg fr kn => .inl ⟨trivial, fun K hK => stepc enterRStream rfl (args4 kn.1 rfl kn.2.1 kn.2.2.1) (HST.out ww) (fun w' hb => hK _ _ ⟨touch_below hb, rfl⟩)⟩),
            -- 6
            (fun Q aq ww own hS hBg fr kn => .inl ⟨trivial, fun K hK => wp_value (exec_assign rfl kn.1) (hK _ _ ⟨Touch.refl _ _, rfl⟩)⟩),
            -- 7
            (fun Q aq ww own hS hBg fr kn => .inl ⟨trivial, fun K hK => wp_value (exec_assign (v := .int .i64 0) rfl rfl) (hK _ _ ⟨Touch.refl _ _, rfl⟩)⟩),
            trivial⟩ ?_
      intro vs own v5 hB5 hs5 kn inj
      have e8 : vs 8 = _ := kn.1
      have e9 : vs 9 = _ := kn.2.1
      simp only [putAll, Act.put, List.setIfInBounds_toArray, List.set_cons_zero, List.set_cons_succ, e8, e9]
      go_wp2_with fail
      exact bodyPost_ret (v := .tuple #[.string (underT key nonce (box.extract 0 n)), .int .i64 0]) (results_two Try.results15 (by rfl) (by rfl)) rfl ⟨by rw [HR.out], hB.trans (hB5.mono hB.size)⟩
    · have HEQ := Hid.mk heq
      have HR : Hid (openT key nonce box beside = (ByteArray.empty, 13)) := Hid.mk (by unfold openT; rw [hsub, if_neg (fun h => heq h.2)])
      clear heq hsub hU hnn
      go_enter Try.func15, Try.ntmps15
      go_wp2_with fail
      refine wp_gen (fun v => ArrAt v w.heap.size .u8 22 32 key ∧ ArrAt v (w.heap.size + 1) .u8 24 12 nonce ∧ Below w.heap.size w v) ⟨g0, g1, hB⟩ ?_
      clear g0 g1 hB
      rintro v0 ⟨g0, g1, hB⟩
      have HG0 : Hid (∀ u, Below v0.heap.size v0 u → ArrAt u w.heap.size .u8 22 32 key) := Hid.mk (fun u hu => g0.kept hu)
      have HG1 : Hid (∀ u, Below v0.heap.size v0 u → ArrAt u (w.heap.size + 1) .u8 24 12 nonce) := Hid.mk (fun u hu => g1.kept hu)
      refine wp_region3 (Below v0.heap.size v0) v0.heap.size
          ([] : List (Nat × Cont))
          [kv (.int .i64 (n : Int)), kv (.bool false), kv (.bool false), kv (.string box), kv (.int .i64 (n : Int)), kv (.string (box.extract n box.size)), kv (.agg (WA .u8 32 key)), kv (.agg (WA .u8 12 nonce)), kv (.string box), kv (.int .i64 (n : Int)), kv (.string (box.extract 0 n)), kv (.string beside), kv (.string (markT key nonce (box.extract 0 n) beside)), kv (.bool true), kv (.bool true)]
          [.none, .none, .none, .none, .none, .none, .none, .none, .none, .none, .none, .none, .none, .none, .none]
          [some 14, some 15, some 16, some 17, some 18, some 19, some 20, some 21, some 22, some 23, some 24, some 25, some 26, some 27, some 28]
          [(10, .int .i64 (n : Int)), (2, .string box), (4, .pointer (some ⟨w.heap.size, 0, none⟩)), (5, .pointer (some ⟨(w.heap.size + 1), 0, none⟩)), (3, .string beside)]
          [[], [.slot 0], [.slot 1], [.slot 2], [.slot 2], [.slot 2, .slot 3, .slot 4], [.slot 2], [.slot 2], [.slot 2], [.slot 2], [.slot 2, .slot 8, .slot 9], [.slot 2], [.slot 2, .slot 6, .slot 7, .slot 10, .slot 11], [.slot 2, .slot 5, .slot 12], [.slot 2, .slot 13]]
          [.slot 14] [14, 15, 16, 17, 18, 19, 20, 21, 22, 23, 24, 25, 26, 27, 28]
          rfl (by kernel_rfl) ⟨rfl, rfl, rfl, rfl, rfl, trivial⟩ (Below.refl _ v0).drew (Nat.le_refl _) trivial trivial (below_G (Nat.le_refl _) trivial)
          ⟨
            -- 0
            (fun Q aq ww own hS hBg fr kn => .inl ⟨trivial, fun K hK => wp_value (exec_move rfl fr.1) (hK _ _ ⟨Touch.refl _ _, rfl⟩)⟩),
            -- 1
            (fun Q aq ww own hS hBg fr kn => .inl ⟨trivial, fun K hK => wp_value (exec_lssF0 rfl kn.1 rfl (by omega)) (hK _ _ ⟨Touch.refl _ _, rfl⟩)⟩),
            -- 2
            (fun Q aq ww own hS hBg fr kn => .inl ⟨trivial, fun K hK => wp_value (exec_move rfl kn.1) (hK _ _ ⟨Touch.refl _ _, rfl⟩)⟩),
            -- 3
            (fun Q aq ww own hS hBg fr kn => .inl ⟨kn.1, fun K hK => wp_value (exec_move rfl fr.2.1) (hK _ _ ⟨Touch.refl _ _, rfl⟩)⟩),
            -- 4
            (fun Q aq ww own hS hBg fr kn => .inl ⟨kn.1, fun K hK => wp_value (exec_move rfl fr.1) (hK _ _ ⟨Touch.refl _ _, rfl⟩)⟩),
            -- 5
            (fun Q aq ww own hS hBg fr kn => .inl ⟨kn.1, fun K hK => wp_value (exec_slL rfl kn.2.1 kn.2.2.1 (strL box n ww HNB.out)) (hK _ _ ⟨Touch.refl _ _, rfl⟩)⟩),
            -- 6
            (fun Q aq ww own hS hBg fr kn => .inl ⟨kn.1, fun K hK => wp_value (look_arr rfl isArr32 (HG0.out ww hS) fr.2.2.1) (hK _ _ ⟨Touch.refl _ _, rfl⟩)⟩),
            -- 7
            (fun Q aq ww own hS hBg fr kn => .inl ⟨kn.1, fun K hK => wp_value (look_arr rfl isArr12 (HG1.out ww hS) fr.2.2.2.1) (hK _ _ ⟨Touch.refl _ _, rfl⟩)⟩),
            -- 8
            (fun Q aq ww own hS hBg fr kn => .inl ⟨kn.1, fun K hK => wp_value (exec_move rfl fr.2.1) (hK _ _ ⟨Touch.refl _ _, rfl⟩)⟩),
            -- 9
            (fun Q aq ww own hS hBg fr kn => .inl ⟨kn.1, fun K hK => wp_value (exec_move rfl fr.1) (hK _ _ ⟨Touch.refl _ _, rfl⟩)⟩),
            -- 10
            (fun Q aq ww own hS hBg fr kn => .inl ⟨kn.1, fun K hK => wp_value (exec_slH rfl kn.2.1 kn.2.2.1 (strH box n ww HNB.out)) (hK _ _ ⟨Touch.refl _ _, rfl⟩)⟩),
            -- 11
            (fun Q aq ww own hS hBg fr kn => .inl ⟨kn.1, fun K hK => wp_value (exec_move rfl fr.2.2.2.2.1) (hK _ _ ⟨Touch.refl _ _, rfl⟩)⟩),
            -- 12
            (fun Q aq ww own hS hBg fr kn => .inl ⟨kn.1, fun K hK => stepc enterRMark rfl (args4 kn.2.1 kn.2.2.1 kn.2.2.2.1 kn.2.2.2.2.1) (HMK.out ww) (fun w' hb => hK _ _ ⟨touch_below hb, rfl⟩)⟩),
            -- 13
            (fun Q aq ww own hS hBg fr kn => .inl ⟨kn.1, fun K hK => wp_value (exec_neqST rfl kn.2.1 kn.2.2.1 HEQ.out) (hK _ _ ⟨Touch.refl _ _, rfl⟩)⟩),
            -- 14
            (fun Q aq ww own hS hBg fr kn => .inl ⟨trivial, fun K hK => wp_value (exec_pickF rfl kn.1 kn.2.1) (hK _ _ ⟨Touch.refl _ _, rfl⟩)⟩),
            trivial⟩ ?_
      intro vs own v5 hB5 hs5 kn inj
      clear inj hs5
      replace g0 := g0.kept hB5
      replace g1 := g1.kept hB5
      replace hB := hB.trans (hB5.mono hB.size)
      have e28 : vs 28 = .bool true := kn.1
      clear kn hB5 HG0 HG1
      simp only [putAll, Act.put, List.setIfInBounds_toArray, List.set_cons_zero, List.set_cons_succ, e28]
      go_wp2_with fail
      exact bodyPost_ret (v := .tuple #[.string ByteArray.empty, .int .i64 13]) (results_two Try.results15 (by rfl) (by rfl)) rfl ⟨by rw [HR.out], hB⟩
  · have HR : Hid (openT key nonce box beside = (ByteArray.empty, 13)) := Hid.mk (by unfold openT; rw [if_neg (fun h => h16 h.1)])
    have hnw := i64_wrap (n := (box.size : Int) - 16) (by omega) (by omega)
    go_enter Try.func15, Try.ntmps15
    go_wp2_with fail
    refine wp_gen (fun v => ArrAt v w.heap.size .u8 22 32 key ∧ ArrAt v (w.heap.size + 1) .u8 24 12 nonce ∧ Below w.heap.size w v) ⟨g0, g1, hB⟩ ?_
    clear g0 g1 hB
    rintro v0 ⟨g0, g1, hB⟩
    have HG0 : Hid (∀ u, Below v0.heap.size v0 u → ArrAt u w.heap.size .u8 22 32 key) := Hid.mk (fun u hu => g0.kept hu)
    have HG1 : Hid (∀ u, Below v0.heap.size v0 u → ArrAt u (w.heap.size + 1) .u8 24 12 nonce) := Hid.mk (fun u hu => g1.kept hu)
    refine wp_region3 (Below v0.heap.size v0) v0.heap.size
        ([] : List (Nat × Cont))
        [kv (.int .i64 ((box.size : Int) - 16)), kv (.bool true), kv (.bool true), .val fun _ => True, .val fun _ => True, .val fun _ => True, .val fun _ => True, .val fun _ => True, .val fun _ => True, .val fun _ => True, .val fun _ => True, .val fun _ => True, .val fun _ => True, .val fun _ => True, kv (.bool true)]
        [.none, .none, .none, .none, .none, .none, .none, .none, .none, .none, .none, .none, .none, .none, .none]
        [some 14, some 15, some 16, some 17, some 18, some 19, some 20, some 21, some 22, some 23, some 24, some 25, some 26, some 27, some 28]
        [(10, .int .i64 ((box.size : Int) - 16))]
        [[], [.slot 0], [.slot 1], [.slot 2], [.slot 2], [.slot 2], [.slot 2], [.slot 2], [.slot 2], [.slot 2], [.slot 2], [.slot 2], [.slot 2], [.slot 2], [.slot 2]]
        [.slot 14] [14, 15, 16, 17, 18, 19, 20, 21, 22, 23, 24, 25, 26, 27, 28]
        rfl (by kernel_rfl) ⟨rfl, trivial⟩ (Below.refl _ v0).drew (Nat.le_refl _) trivial trivial (below_G (Nat.le_refl _) trivial)
        ⟨
          -- 0
          (fun Q aq ww own hS hBg fr kn => .inl ⟨trivial, fun K hK => wp_value (exec_move rfl fr.1) (hK _ _ ⟨Touch.refl _ _, rfl⟩)⟩),
          -- 1
          (fun Q aq ww own hS hBg fr kn => .inl ⟨trivial, fun K hK => wp_value (exec_lssT0 rfl kn.1 rfl (by omega)) (hK _ _ ⟨Touch.refl _ _, rfl⟩)⟩),
          -- 2
          (fun Q aq ww own hS hBg fr kn => .inl ⟨trivial, fun K hK => wp_value (exec_move rfl kn.1) (hK _ _ ⟨Touch.refl _ _, rfl⟩)⟩),
          -- 3
          (fun Q aq ww own hS hBg fr kn => .inr ⟨.inl kn.1, Touch.refl _ _, trivial⟩),
          -- 4
          (fun Q aq ww own hS hBg fr kn => .inr ⟨.inl kn.1, Touch.refl _ _, trivial⟩),
          -- 5
          (fun Q aq ww own hS hBg fr kn => .inr ⟨.inl kn.1, Touch.refl _ _, trivial⟩),
          -- 6
          (fun Q aq ww own hS hBg fr kn => .inr ⟨.inl kn.1, Touch.refl _ _, trivial⟩),
          -- 7
          (fun Q aq ww own hS hBg fr kn => .inr ⟨.inl kn.1, Touch.refl _ _, trivial⟩),
          -- 8
          (fun Q aq ww own hS hBg fr kn => .inr ⟨.inl kn.1, Touch.refl _ _, trivial⟩),
          -- 9
          (fun Q aq ww own hS hBg fr kn => .inr ⟨.inl kn.1, Touch.refl _ _, trivial⟩),
          -- 10
          (fun Q aq ww own hS hBg fr kn => .inr ⟨.inl kn.1, Touch.refl _ _, trivial⟩),
          -- 11
          (fun Q aq ww own hS hBg fr kn => .inr ⟨.inl kn.1, Touch.refl _ _, trivial⟩),
          -- 12
          (fun Q aq ww own hS hBg fr kn => .inr ⟨.inl kn.1, Touch.refl _ _, trivial⟩),
          -- 13
          (fun Q aq ww own hS hBg fr kn => .inr ⟨.inl kn.1, Touch.refl _ _, trivial⟩),
          -- 14
          (fun Q aq ww own hS hBg fr kn => .inl ⟨trivial, fun K hK => wp_value (exec_pick (v := .bool true) rfl kn.1 rfl) (hK _ _ ⟨Touch.refl _ _, rfl⟩)⟩),
          trivial⟩ ?_
    intro vs own v5 hB5 hs5 kn inj
    clear inj hs5
    replace g0 := g0.kept hB5
    replace g1 := g1.kept hB5
    replace hB := hB.trans (hB5.mono hB.size)
    have e28 : vs 28 = .bool true := kn.1
    clear kn hB5 HG0 HG1
    simp only [putAll, Act.put, List.setIfInBounds_toArray, List.set_cons_zero, List.set_cons_succ, e28]
    go_wp2_with fail
    exact bodyPost_ret (v := .tuple #[.string ByteArray.empty, .int .i64 13]) (results_two Try.results15 (by rfl) (by rfl)) rfl ⟨by rw [HR.out], hB⟩
end Go.Proofs.Ytfkgfojofdachaa
/-
  Own text. What Same of package aead answers.
-/
namespace Go.Proofs.Ytfkgfojofdachaa
open Go.RowKit Go.Proofs
set_option maxRecDepth 100000
theorem same_ext {a b : ByteArray} (hl : a.size = b.size) (h : ∀ j, j < a.size → txt a j = txt b j) : a = b := by
  refine ByteArray.ext (Array.ext hl (fun i h1 h2 => ?_))
  have := h i h1
  rw [← txt_get h1, ← txt_get (s := b) h2] at this
  have h3 : (a.data[i].toNat : Int) = b.data[i].toNat := this
  exact UInt8.toNat_inj.1 (Int.ofNat.inj h3)
theorem xor_zero {x y : Nat} : x ^^^ y = 0 ↔ x = y := by
  constructor
  · intro h
    have h2 : x ^^^ y ^^^ y = x := by rw [Nat.xor_assoc, Nat.xor_self, Nat.xor_zero]
    rw [h, Nat.zero_xor] at h2
    exact h2.symm
  · rintro rfl
    exact Nat.xor_self _
theorem differ_next (d : Int) (x y : UInt8) (hd : 0 ≤ d ∧ d < 256) : ∃ e : Int, bits .or .u8 d (bits .xor .u8 (x.toNat : Int) (y.toNat : Int)) = e ∧ (0 ≤ e ∧ e < 256) ∧ (e = 0 ↔ d = 0 ∧ x = y) := by
  refine ⟨_, rfl, ?_⟩
  have hx : x.toNat < 256 := x.toNat_lt
  have hy : y.toNat < 256 := y.toNat_lt
  have h1 := Nat.xor_lt_two_pow (x := x.toNat) (y := y.toNat) (n := 8) hx hy
  have h2 := Nat.or_lt_two_pow (x := d.toNat) (y := x.toNat ^^^ y.toNat) (n := 8) (by omega) h1
  rw [u8_xor_nat _ _ hx hy, u8_or _ _ hd.1 hd.2 (by omega) (by omega), Int.toNat_natCast]
  refine ⟨⟨by omega, by omega⟩, ?_⟩
  have h3 : ((d.toNat ||| (x.toNat ^^^ y.toNat) : Nat) : Int) = 0 ↔ d.toNat = 0 ∧ x.toNat = y.toNat := by
    rw [Int.natCast_eq_zero, Nat.or_eq_zero_iff, xor_zero]
  rw [h3, UInt8.toNat_inj]
  exact ⟨fun h => ⟨by omega, h.2⟩, fun h => ⟨by omega, h.2⟩⟩
set_option maxHeartbeats 4000000 in
theorem Same_run (a b : ByteArray) (w : World) (ha : a.size ≤ 1152921504606846976) :
    Calls Try.prog 19 #[.string a, .string b] w fun e w' => e = .returned (.bool (decide (a = b))) ∧ Below w.heap.size w w' := by
  by_cases hl : a.size = b.size
  · have hlI : (a.size : Int) = (b.size : Int) := by omega
    have hB := Below.refl w.heap.size w
    go_enter Try.func19, Try.ntmps19
    go_wp2_with fail
    go_loopg [5, 14] a.size (fun gm dv iv v => ∃ (i : Nat) (d : Int), Hid (gm + i = a.size) ∧ iv = .int .i64 (i : Int) ∧ dv = .int .u8 d ∧ (0 ≤ d ∧ d < 256) ∧ Hid (d = 0 ↔ ∀ j, j < i → txt a j = txt b j) ∧ Below w.heap.size w v)
    case atStart => exact ⟨0, 0, Hid.mk rfl, rfl, rfl, by omega, Hid.mk ⟨fun _ j hj => by omega, fun _ => rfl⟩, hB⟩
    case round =>
      clear hB
      obtain ⟨i, d, HI, rfl, rfl, hd, HD, hB⟩ := hrel
      have hi8 : i ≤ a.size := by have := HI.out; omega
      by_cases hil : i < a.size
      · have hib : i < b.size := by omega
        obtain ⟨e, he, he2, he3⟩ := differ_next d a[i] b[i] hd
        have HE : Hid (e = 0 ↔ ∀ j, j < i + 1 → txt a j = txt b j) := Hid.mk (by
          have t1 : (a[i] = b[i]) ↔ txt a i = txt b i := by
            rw [← txt_get hil, ← txt_get hib]
            constructor
            · intro h; rw [h]
            · intro h; exact UInt8.toNat_inj.1 (by omega)
          rw [he3, HD.out, t1]
          constructor
          · rintro ⟨h1, h2⟩ j hj
            by_cases e : j = i
            · rw [e]; exact h2
            · exact h1 j (by omega)
          · intro h
            exact ⟨fun j hj => h j (by omega), h i (by omega)⟩)
        clear he3 HD
        go_wp2_with fail
        go_region
        clear he
        replace hB := hB.drew
        generalize wr.drew = wr2 at *
        go_wp2_with fail
        go_roundg (a.size - (i + 1))
        case rel => exact ⟨i + 1, e, Hid.mk (by omega), by go_num, rfl, he2, HE, hB⟩
        case measure => have := HI.out; omega
      · have hi2 : i = a.size := by omega
        subst hi2
        have hE : (d == 0) = decide (a = b) := by
          show decide (d = 0) = _
          refine decide_eq_decide.2 (HD.out.trans ⟨fun h => same_ext hl h, fun h => ?_⟩)
          rw [h]
          exact fun _ _ => rfl
        clear HD
        go_wp2_with fail
        go_ret
        exact ⟨by rw [← hE]; rfl, hB⟩
  · have hlI : ¬ (a.size : Int) = (b.size : Int) := by omega
    have hE : decide (a = b) = false := decide_eq_false (fun h => hl (by rw [h]))
    have HE := Hid.mk hE
    clear hE hl
    go_enter Try.func19, Try.ntmps19
    go_wp2_with fail
    go_ret
    exact ⟨by rw [HE.out]; rfl, Below.refl _ _⟩
end Go.Proofs.Ytfkgfojofdachaa
/-
  Own text. What Seal of package aead answers.
-/
namespace Go.Proofs.Ytfkgfojofdachaa
open Go.RowKit Go.Proofs
set_option maxRecDepth 100000
theorem mark2 (key nonce : Nat → Int) (under beside : ByteArray) (pv : Value) (w : World) (hk : Byts 32 key) (hn : Byts 12 nonce) (hv : Strs w pv 2 (two2 beside under)) (hu : under.size ≤ 1152921504606846976) (hb : beside.size ≤ 1152921504606846976) :
    Calls Try.prog 22 #[.agg (WA .u8 32 key), .agg (WA .u8 12 nonce), pv] w fun e w' => e = .returned (.agg (WA .u8 16 (digN (markN (onceK key nonce) (txt (marked under beside)) (marked under beside).size)))) ∧ Below w.heap.size w w' := by
  have h := markOf_run key nonce pv (two2 beside under) w hk hn hv (fun j hj => by
    match j, hj with
    | 0, _ => exact hb
    | 1, _ => exact hu)
  rw [join6] at h
  exact h
set_option maxHeartbeats 4000000 in
theorem Seal_run (key nonce : Nat → Int) (text beside : ByteArray) (w : World) (hk : Byts 32 key) (hn : Byts 12 nonce) (ht : text.size ≤ 140737488355328) (hbs : beside.size ≤ 281474976710656) :
    Calls Try.prog 8 #[.agg (WA .u8 32 key), .agg (WA .u8 12 nonce), .string text, .string beside] w fun e w' => e = .returned (.string (boxT key nonce text beside)) ∧ Below w.heap.size w w' := by
  have g0 : ArrAt ((w.alloc (.cells (WA .u8 32 key) 22)).alloc (.cells (WA .u8 12 nonce) 24)) w.heap.size .u8 22 32 key := heap_alloc2_old w _ _
  have g1 : ArrAt ((w.alloc (.cells (WA .u8 32 key) 22)).alloc (.cells (WA .u8 12 nonce) 24)) (w.heap.size + 1) .u8 24 12 nonce := heap_alloc2_new w _ _
  have hB : Below w.heap.size w ((w.alloc (.cells (WA .u8 32 key) 22)).alloc (.cells (WA .u8 12 nonce) 24)) := ((Below.refl _ w).alloc (by simp) _).alloc (by simp) _
  have hS := fun w => Stream_run key nonce 1 text w hk hn (by unfold W32; omega) ht
  have hM := fun pv w hv => mark2 key nonce (underT key nonce text) beside pv w hk hn hv (by rw [underT_size]; omega) (by omega)
  have HE : Hid (underT key nonce text ++ markT key nonce (underT key nonce text) beside = boxT key nonce text beside) := Hid.mk rfl
  have hL1 : (underT key nonce text).size + (markT key nonce (underT key nonce text) beside).size ≤ 9223372036854775807 := by rw [underT_size, markT_size]; omega
  change ∀ w, Calls _ _ _ w fun e w' => e = .returned (.string (underT key nonce text)) ∧ Below w.heap.size w w' at hS
  unfold markT at HE hL1
  have hmb := digN_b (markN (onceK key nonce) (txt (marked (underT key nonce text) beside)) (marked (underT key nonce text) beside).size)
  generalize digN (markN (onceK key nonce) (txt (marked (underT key nonce text) beside)) (marked (underT key nonce text) beside).size) = m at *
  generalize underT key nonce text = u at *
  clear ht
  go_enter Try.func8, Try.ntmps8
  go_wp2_with (first | (refine ld_arr isArr32 g0 (by rfl) ?_) | (refine ld_arr isArr12 g1 (by rfl) ?_))
  refine (hS _).mono ?_
  rintro e v1 ⟨rfl, hb⟩
  replace g0 := g0.kept hb
  replace g1 := g1.kept hb
  replace hB := hB.trans (hb.mono hB.size)
  clear hb hS
  go_wp2_with (first | (refine ld_arr isArr32 g0 (by rfl) ?_) | (refine ld_arr isArr12 g1 (by rfl) ?_) | (refine wl_bs2 (by rfl) (by rfl) ?_; intro v2 s2 hb2 hz2; refine Hid.out ?_))
  replace hB := hB.trans (hb2.mono hB.size)
  clear hb2 hz2 g0 g1
  refine Hid.mk ?_
  go_wp2_with fail
  refine (hM _ _ s2).mono ?_
  rintro e v3 ⟨rfl, hb3⟩
  replace hB := hB.trans (hb3.mono hB.size)
  clear hb3 s2 hM
  have gn := fun o (ho : o = Obj.cells (WA .u8 16 fun _ => 0) 42 (0, 0)) => (by rw [ho]; exact heap_alloc_new v3 _ : ArrAt (v3.alloc o) v3.heap.size .u8 42 16 (fun _ => 0))
  have HBS := Hid.mk hB.size
  go_wp2_with (refine st_arr isArr16 (gn _ rfl) (by rfl) (by rfl) ?_; intro v4 g4 o4; refine Hid.out ?_)
  replace hB := (hB.alloc HBS.out _).trans (o4.below HBS.out)
  clear o4 gn HBS
  have hcv := str_back 16 v3.heap.size 16 v4 16 m g4.row (fun j _ => hmb j) rfl
  refine Hid.mk ?_
  go_wp2_with (refine wl_value rfl (exec_catS rfl (by rfl) (by rfl) hL1) ?_)
  rw [HE.out]
  go_ret
  exact ⟨rfl, hB⟩
end Go.Proofs.Ytfkgfojofdachaa
/-
  Own text. What Open of package aead answers.
-/
namespace Go.Proofs.Ytfkgfojofdachaa
open Go.RowKit Go.Proofs
set_option maxRecDepth 100000
theorem exec_sub16 {a : Act} {o : Oper} {w : World} {x : Operand} (ho : o.op = .binOp .sub 3 x (.const (.int .i64 16)) 3) {m n : Int} (hx : a.eval x = .int .i64 m) (h : m - 16 = n ∧ -9223372036854775808 ≤ n ∧ n < 9223372036854775808) : (execOp a.eval o).run Try.prog w = .ok (.value (.int .i64 n)) w :=
  exec_bin ho rfl hx rfl (by simp [go_sem, h.1, i64_wrap h.2.1 h.2.2])
set_option maxHeartbeats 8000000 in
theorem Open_run (key nonce : Nat → Int) (box beside : ByteArray) (w : World) (hk : Byts 32 key) (hn : Byts 12 nonce) (ht : box.size ≤ 140737488355328) (hbs : beside.size ≤ 281474976710656) :
    Calls Try.prog 12 #[.agg (WA .u8 32 key), .agg (WA .u8 12 nonce), .string box, .string beside] w fun e w' => e = .returned (.tuple #[.string (openT key nonce box beside).1, .int .i64 (openT key nonce box beside).2]) ∧ Below w.heap.size w w' := by
  have g0 : ArrAt ((w.alloc (.cells (WA .u8 32 key) 22)).alloc (.cells (WA .u8 12 nonce) 24)) w.heap.size .u8 22 32 key := heap_alloc2_old w _ _
  have g1 : ArrAt ((w.alloc (.cells (WA .u8 32 key) 22)).alloc (.cells (WA .u8 12 nonce) 24)) (w.heap.size + 1) .u8 24 12 nonce := heap_alloc2_new w _ _
  have hB : Below w.heap.size w ((w.alloc (.cells (WA .u8 32 key) 22)).alloc (.cells (WA .u8 12 nonce) 24)) := ((Below.refl _ w).alloc (by simp) _).alloc (by simp) _
  by_cases h16 : 16 ≤ box.size
  · obtain ⟨n, hnn⟩ : ∃ n, box.size = n + 16 := ⟨box.size - 16, by omega⟩
    have HNI : Hid ((box.size : Int) - 16 = (n : Int) ∧ -9223372036854775808 ≤ (n : Int) ∧ (n : Int) < 9223372036854775808) := Hid.mk (by omega)
    have HNB : Hid (n ≤ box.size) := Hid.mk (by omega)
    have hU := take_size box n (by omega)
    have hsub : box.size - 16 = n := by omega
    have HO : Hid (openT key nonce box beside = if (box.extract n box.size) = markT key nonce (box.extract 0 n) beside then (underT key nonce (box.extract 0 n), 0) else (ByteArray.empty, 13)) := Hid.mk (by
      unfold openT
      rw [hsub]
      by_cases e : (box.extract n box.size) = markT key nonce (box.extract 0 n) beside
      · rw [if_pos ⟨h16, e⟩, if_pos e]
      · rw [if_neg (fun h => e h.2), if_neg e])
    have hlI : ¬ (box.size : Int) < 16 := by omega
    have hM := fun pv w hv => mark2 key nonce (box.extract 0 n) beside pv w hk hn hv (by omega) (by omega)
    have hST : ∀ ww : World, Calls Try.prog 21 #[.agg (WA .u8 32 key), .int .u32 1, .agg (WA .u8 12 nonce), .string (box.extract 0 n)] ww fun e w' => e = .returned (.string (underT key nonce (box.extract 0 n))) ∧ Below ww.heap.size ww w' := fun ww => Stream_run key nonce 1 _ ww hk hn (by unfold W32; omega) (by omega)
    clear hU hsub hnn
    go_enter Try.func12, Try.ntmps12
    go_wp2_with fail
    refine wp_gen (fun v => ArrAt v w.heap.size .u8 22 32 key ∧ ArrAt v (w.heap.size + 1) .u8 24 12 nonce ∧ Below w.heap.size w v) ⟨g0, g1, hB⟩ ?_
    clear g0 g1 hB
    rintro v0 ⟨g0, g1, hB⟩
    refine wp_region3 (Below v0.heap.size v0) v0.heap.size
      ([] : List (Nat × Cont))
      [kv (.string box), kv (.string box), kv (.int .i64 (box.size : Int)), kv (.int .i64 (n : Int)), kv (.string (box.extract 0 n)), kv (.string box), kv (.string box), kv (.int .i64 (box.size : Int)), kv (.int .i64 (n : Int)), kv (.string (box.extract n box.size)), kv (.string (box.extract 0 n)), kv (.string (box.extract n box.size))]
      [.none, .none, .none, .none, .none, .none, .none, .none, .none, .none, .none, .none]
      [some 16, some 17, some 18, some 19, some 20, some 21, some 22, some 23, some 24, some 25, some 10, some 11]
      [(2, .string box)]
      [[], [], [.slot 1], [.slot 2], [.slot 0, .slot 3], [], [], [.slot 6], [.slot 7], [.slot 5, .slot 8], [.slot 4], [.slot 9]]
      [.slot 10, .slot 11] [16, 17, 18, 19, 20, 21, 22, 23, 24, 25, 10, 11]
      rfl (by kernel_rfl) ⟨rfl, trivial⟩ (Below.refl _ v0).drew (Nat.le_refl _) trivial trivial (below_G (Nat.le_refl _) trivial)
      ⟨
        -- 0
        (fun Q aq ww own hS hBg fr kn => .inl ⟨trivial, fun K hK => wp_value (exec_move rfl fr.1) (hK _ _ ⟨Touch.refl _ _, rfl⟩)⟩),
        -- 1
        (fun Q aq ww own hS hBg fr kn => .inl ⟨trivial, fun K hK => wp_value (exec_move rfl fr.1) (hK _ _ ⟨Touch.refl _ _, rfl⟩)⟩),
        -- 2
        (fun Q aq ww own hS hBg fr kn => .inl ⟨trivial, fun K hK => wp_value (exec_lenS rfl kn.1) (hK _ _ ⟨Touch.refl _ _, rfl⟩)⟩),
        -- 3
        (fun Q aq ww own hS hBg fr kn => .inl ⟨trivial, fun K hK => wp_value (exec_sub16 rfl kn.1 HNI.out) (hK _ _ ⟨Touch.refl _ _, rfl⟩)⟩),
        -- 4
        (fun Q aq ww own hS hBg fr kn => .inl ⟨trivial, fun K hK => wp_value (exec_slH rfl kn.1 kn.2.1 (strH box n ww HNB.out)) (hK _ _ ⟨Touch.refl _ _, rfl⟩)⟩),
        -- 5
        (fun Q aq ww own hS hBg fr kn => .inl ⟨trivial, fun K hK => wp_value (exec_move rfl fr.1) (hK _ _ ⟨Touch.refl _ _, rfl⟩)⟩),
        -- 6
        (fun Q aq ww own hS hBg fr kn => .inl ⟨trivial, fun K hK => wp_value (exec_move rfl fr.1) (hK _ _ ⟨Touch.refl _ _, rfl⟩)⟩),
        -- 7
        (fun Q aq ww own hS hBg fr kn => .inl ⟨trivial, fun K hK => wp_value (exec_lenS rfl kn.1) (hK _ _ ⟨Touch.refl _ _, rfl⟩)⟩),
        -- 8
        (fun Q aq ww own hS hBg fr kn => .inl ⟨trivial, fun K hK => wp_value (exec_sub16 rfl kn.1 HNI.out) (hK _ _ ⟨Touch.refl _ _, rfl⟩)⟩),
        -- 9
        (fun Q aq ww own hS hBg fr kn => .inl ⟨trivial, fun K hK => wp_value (exec_slL rfl kn.1 kn.2.1 (strL box n ww HNB.out)) (hK _ _ ⟨Touch.refl _ _, rfl⟩)⟩),
        -- 10
        (fun Q aq ww own hS hBg fr kn => .inl ⟨trivial, fun K hK => wp_value (exec_assign rfl kn.1) (hK _ _ ⟨Touch.refl _ _, rfl⟩)⟩),
        -- 11
        (fun Q aq ww own hS hBg fr kn => .inl ⟨trivial, fun K hK => wp_value (exec_assign rfl kn.1) (hK _ _ ⟨Touch.refl _ _, rfl⟩)⟩),
        trivial⟩ ?_
    intro vs own v5 hB5 hs5 kn inj
    clear inj hs5
    replace g0 := g0.kept hB5
    replace g1 := g1.kept hB5
    replace hB := hB.trans (hB5.mono hB.size)
    have e10 : vs 10 = .string (box.extract 0 n) := kn.1
    have e11 : vs 11 = .string (box.extract n box.size) := kn.2.1
    clear kn hB5
    simp only [putAll, Act.put, List.setIfInBounds_toArray, List.set_cons_zero, List.set_cons_succ, e10, e11]
    clear e10 e11 HNI HNB
    unfold markT at HO
    have hmb := digN_b (markN (onceK key nonce) (txt (marked (box.extract 0 n) beside)) (marked (box.extract 0 n) beside).size)
    generalize digN (markN (onceK key nonce) (txt (marked (box.extract 0 n) beside)) (marked (box.extract 0 n) beside).size) = m at *
    generalize underT key nonce (box.extract 0 n) = ut at *
    generalize (box.extract 0 n) = u at *
    generalize (box.extract n box.size) = x at *
    go_wp2_with (first | (refine ld_arr isArr32 g0 (by rfl) ?_) | (refine ld_arr isArr12 g1 (by rfl) ?_) | (refine wl_bs2 (by rfl) (by rfl) ?_; intro v2 s2 hb2 hz2; refine Hid.out ?_))
    replace hB := hB.trans (hb2.mono hB.size)
    replace g0 := g0.kept hb2
    replace g1 := g1.kept hb2
    clear hb2 hz2
    refine Hid.mk ?_
    go_wp2_with fail
    refine (hM _ _ s2).mono ?_
    rintro e v3 ⟨rfl, hb3⟩
    replace hB := hB.trans (hb3.mono hB.size)
    replace g0 := g0.kept hb3
    replace g1 := g1.kept hb3
    clear hb3 s2 hM
    have gn := fun o (ho : o = Obj.cells (WA .u8 16 fun _ => 0) 42 (0, 0)) => (by rw [ho]; exact heap_alloc_new v3 _ : ArrAt (v3.alloc o) v3.heap.size .u8 42 16 (fun _ => 0))
    have HBS := Hid.mk hB.size
    have hz0 := g0.lt
    have hz1 := g1.lt
    go_wp2_with (refine st_arr isArr16 (gn _ rfl) (by rfl) (by rfl) ?_; intro v4 g4 o4; refine Hid.out ?_)
    replace hB := (hB.alloc HBS.out _).trans (o4.below HBS.out)
    replace g0 := (g0.alloc _).only o4 (by omega)
    replace g1 := (g1.alloc _).only o4 (by omega)
    clear o4 gn HBS hz0 hz1
    have hcv := str_back 16 v3.heap.size 16 v4 16 m g4.row (fun j _ => hmb j) rfl
    refine Hid.mk ?_
    go_wp2_with fail
    refine (Same_run (mkS 16 m) x _ (by rw [mkS_size]; omega)).mono ?_
    rintro e v6 ⟨rfl, hb6⟩
    replace hB := hB.trans (hb6.mono hB.size)
    replace g0 := g0.kept hb6
    replace g1 := g1.kept hb6
    clear hb6 g4 hcv
    by_cases heq : x = mkS 16 m
    · have hd : decide (mkS 16 m = x) = true := decide_eq_true heq.symm
      have HR : Hid (openT key nonce box beside = (ut, 0)) := Hid.mk (by rw [HO.out, if_pos heq])
      rw [hd]
      clear heq hd HO
      go_wp2_with (first | (refine ld_arr isArr32 g0 (by rfl) ?_) | (refine ld_arr isArr12 g1 (by rfl) ?_))
      refine (hST _).mono ?_
      rintro e v7 ⟨rfl, hb7⟩
      replace hB := hB.trans (hb7.mono hB.size)
      clear hb7 g0 g1 hST
      go_wp2_with fail
      exact bodyPost_ret (v := .tuple #[.string ut, .int .i64 0]) (results_two Try.results12 (by rfl) (by rfl)) rfl ⟨by rw [HR.out], hB⟩
    · have hd : decide (mkS 16 m = x) = false := decide_eq_false (fun h => heq h.symm)
      have HR : Hid (openT key nonce box beside = (ByteArray.empty, 13)) := Hid.mk (by rw [HO.out, if_neg heq])
      rw [hd]
      clear heq hd HO hST
      go_wp2_with fail
      exact bodyPost_ret (v := .tuple #[.string ByteArray.empty, .int .i64 13]) (results_two Try.results12 (by rfl) (by rfl)) rfl ⟨by rw [HR.out], hB⟩
  · have HR : Hid (openT key nonce box beside = (ByteArray.empty, 13)) := Hid.mk (by unfold openT; rw [if_neg (fun h => h16 h.1)])
    have hlI : (box.size : Int) < 16 := by omega
    go_enter Try.func12, Try.ntmps12
    go_wp2_with fail
    exact bodyPost_ret (v := .tuple #[.string ByteArray.empty, .int .i64 13]) (results_two Try.results12 (by rfl) (by rfl)) rfl ⟨by rw [HR.out], hB⟩
end Go.Proofs.Ytfkgfojofdachaa
/-
  Own text. What behindZeros and Nonce of package aead answer.
-/
namespace Go.Proofs.Ytfkgfojofdachaa
open Go.RowKit Go.Proofs
set_option maxRecDepth 100000
theorem sl12L4 (b : Nat) (w : World) : (Instr.sliceAt 24 (.pointer (some ⟨b, 0, none⟩)) (some (.int .i64 4)) none none).run Try.prog w = .ok (.slice (some ⟨b, 4, none⟩) 8 8) w := by simp [go_sem]
theorem sl8w (b : Nat) (w : World) : (Instr.sliceAt 47 (.pointer (some ⟨b, 0, none⟩)) none none none).run Try.prog w = .ok (.slice (some ⟨b, 0, none⟩) 8 8) w := by simp [go_sem]
theorem sl24H16 (b : Nat) (w : World) : (Instr.sliceAt 23 (.pointer (some ⟨b, 0, none⟩)) none (some (.int .i64 16)) none).run Try.prog w = .ok (.slice (some ⟨b, 0, none⟩) 16 24) w := by simp [go_sem]
theorem sl24L16 (b : Nat) (w : World) : (Instr.sliceAt 23 (.pointer (some ⟨b, 0, none⟩)) (some (.int .i64 16)) none none).run Try.prog w = .ok (.slice (some ⟨b, 16, none⟩) 8 8) w := by simp [go_sem]
theorem sl24L9 (b : Nat) (w : World) : (Instr.sliceAt 23 (.pointer (some ⟨b, 0, none⟩)) (some (.int .i64 9)) none none).run Try.prog w = .ok (.slice (some ⟨b, 9, none⟩) 15 15) w := by simp [go_sem]
theorem sl24w (b : Nat) (w : World) : (Instr.sliceAt 23 (.pointer (some ⟨b, 0, none⟩)) none none none).run Try.prog w = .ok (.slice (some ⟨b, 0, none⟩) 24 24) w := by simp [go_sem]
theorem sl12w (b : Nat) (w : World) : (Instr.sliceAt 24 (.pointer (some ⟨b, 0, none⟩)) none none none).run Try.prog w = .ok (.slice (some ⟨b, 0, none⟩) 12 12) w := by simp [go_sem]
theorem sl16W (b : Nat) (w : World) : (Instr.sliceAt 42 (.pointer (some ⟨b, 0, none⟩)) none none none).run Try.prog w = .ok (.slice (some ⟨b, 0, none⟩) 16 16) w := by simp [go_sem]
/-- The nonce that ends with eight bytes. -/
def tailN (end8 : Nat → Int) : Nat → Int := over (fun _ => 0) 4 8 end8
theorem tailN_b {end8 : Nat → Int} (h : Byts 8 end8) : Byts 12 (tailN end8) := fun i hi => by
  unfold tailN over
  split
  · exact h _ (by omega)
  · show 0 ≤ (0 : Int) ∧ (0 : Int) < 256
    omega
set_option maxHeartbeats 4000000 in
theorem behindZ_run (end8 : Nat → Int) (w : World) :
    Calls Try.prog 27 #[.agg (WA .u8 8 end8)] w fun e w' => e = .returned (.agg (WA .u8 12 (tailN end8))) ∧ Below w.heap.size w w' := by
  have g0 : ArrAt (((w.alloc (.cells (WA .u8 8 end8) 47)).alloc (.cells (WA .u8 12 fun _ => 0) 24)).alloc (.cells (WA .u8 12 fun _ => 0) 24)) w.heap.size .u8 47 8 end8 := heap_a31 w _ _ _
  have g1 : ArrAt (((w.alloc (.cells (WA .u8 8 end8) 47)).alloc (.cells (WA .u8 12 fun _ => 0) 24)).alloc (.cells (WA .u8 12 fun _ => 0) 24)) (w.heap.size + 1) .u8 24 12 (fun _ => 0) := heap_a32 w _ _ _
  have g2 : ArrAt (((w.alloc (.cells (WA .u8 8 end8) 47)).alloc (.cells (WA .u8 12 fun _ => 0) 24)).alloc (.cells (WA .u8 12 fun _ => 0) 24)) (w.heap.size + 1 + 1) .u8 24 12 (fun _ => 0) := heap_a3 w _ _ _
  have hB : Below w.heap.size w (((w.alloc (.cells (WA .u8 8 end8) 47)).alloc (.cells (WA .u8 12 fun _ => 0) 24)).alloc (.cells (WA .u8 12 fun _ => 0) 24)) := (((Below.refl _ w).alloc (by simp) _).alloc (by simp) _).alloc (by simp; omega) _
  go_enter Try.func27, Try.ntmps27
  go_wp2_with fail
  refine wp_gen (fun v => ArrAt v (w.heap.size + 1 + 1) .u8 24 12 (fun _ => 0) ∧ ArrAt v w.heap.size .u8 47 8 (end8) ∧ ArrAt v (w.heap.size + 1) .u8 24 12 (fun _ => 0) ∧ Below w.heap.size w v) ⟨g2, g0, g1, hB⟩ ?_
  clear g2 g0 g1 hB
  rintro v0 ⟨g2, g0, g1, hB⟩
  refine wp_region3 (Below w.heap.size w) v0.heap.size
    [((w.heap.size + 1 + 1), once (WA .u8 12 (fun _ => 0)) 24 2 (WA .u8 12 (over (fun _ => 0) 4 8 (end8)))), (w.heap.size, fixd (WA .u8 8 (end8)) 47), ((w.heap.size + 1), fixd (WA .u8 12 (fun _ => 0)) 24)]
    [kv (.slice (some ⟨(w.heap.size + 1 + 1), 4, none⟩) 8 8), kv (.slice (some ⟨w.heap.size, 0, none⟩) 8 8), .val fun _ => True]
    [.none, .none, .base 0 1]
    [some 4, some 5, some 6]
    [(3, .pointer (some ⟨(w.heap.size + 1 + 1), 0, none⟩)), (1, .pointer (some ⟨w.heap.size, 0, none⟩))]
    [[], [], [.slot 0, .slot 1, .base 0 0, .base 1 0]]
    [.base 0 1, .base 1 0, .base 2 0] [4, 5, 6]
    rfl (by kernel_rfl) ⟨rfl, rfl, trivial⟩ (Below.drew hB) (Nat.le_refl _) ⟨⟨g2.lt, obIn g2⟩, ⟨g0.lt, obIn g0⟩, ⟨g1.lt, obIn g1⟩, trivial⟩ ⟨⟨(show ((w.heap.size + 1 + 1) : Nat) ≠ w.heap.size from by omega), (show ((w.heap.size + 1 + 1) : Nat) ≠ (w.heap.size + 1) from by omega), trivial⟩, ⟨trivial, trivial⟩, trivial, trivial⟩ (below_G hB.size ⟨by omega, by omega, by omega, trivial⟩)
    ⟨
      -- 0
      (fun Q aq ww own hS hBg fr kn => .inl ⟨trivial, fun K hK => wp_value (exec_slL (v := .pointer (some ⟨(w.heap.size + 1 + 1), 0, none⟩)) (u := .int .i64 4) rfl fr.1 rfl (sl12L4 (w.heap.size + 1 + 1) ww)) (hK _ _ ⟨Touch.refl _ _, rfl⟩)⟩),
      -- 1
      (fun Q aq ww own hS hBg fr kn => .inl ⟨trivial, fun K hK => wp_value (exec_sl (v := .pointer (some ⟨w.heap.size, 0, none⟩)) rfl fr.2.1 (sl8w w.heap.size ww)) (hK _ _ ⟨Touch.refl _ _, rfl⟩)⟩),
      -- 2
      (fun Q aq ww own hS hBg fr kn => .inl ⟨trivial, fun K hK => act_copy rfl kn.1 kn.2.1 (obAt kn.2.2.1) (m := 8) rfl (by omega) (r := end8) (fun q hq => by rw [Nat.zero_add]; exact ArrAt.cell (obAt kn.2.2.2.1) q (by omega)) (fun w2 hg ho => hK _ _ ⟨⟨touch_only ho, obIn hg⟩, trivial⟩)⟩),
      trivial⟩ ?_
  intro vs own v1 hB1 hs1 kn inj
  clear inj g2 g0 g1 hB
  have g2 : ArrAt v1 (w.heap.size + 1 + 1) .u8 24 12 (over (fun _ => 0) 4 8 (end8)) := obAt kn.1
  have g0 : ArrAt v1 w.heap.size .u8 47 8 (end8) := obAt kn.2.1
  have g1 : ArrAt v1 (w.heap.size + 1) .u8 24 12 (fun _ => 0) := obAt kn.2.2.1
  have hB := hB1
  clear kn hB1 hs1
  simp only [putAll, Act.put, List.setIfInBounds_toArray, List.set_cons_zero, List.set_cons_succ]
  go_wp2_with (first | (refine ld_arr isArr12 g2 (by rfl) ?_) | (refine st_arr isArr12 g1 (by rfl) (by rfl) ?_; intro v4 g4 o4; refine Hid.out ?_))
  refine Hid.mk ?_
  go_wp2_with fail
  exact bodyPost_ret (res_arr Try.results27 isArr12 g4 (by rfl)) rfl ⟨rfl, hB.trans (o4.below (by omega))⟩
set_option maxHeartbeats 4000000 in
theorem Nonce_run (n : Int) (w : World) :
    Calls Try.prog 18 #[.int .u64 n] w fun e w' => e = .returned (.agg (WA .u8 12 (tailN (digN n)))) ∧ Below w.heap.size w w' := by
  have g0 : ArrAt (w.alloc (.cells (WA .u8 12 fun _ => 0) 24)) w.heap.size .u8 24 12 (fun _ => 0) := heap_alloc_new w _
  have hB : Below w.heap.size w (w.alloc (.cells (WA .u8 12 fun _ => 0) 24)) := (Below.refl _ w).alloc (Nat.le_refl _) _
  go_enter Try.func18, Try.ntmps18
  go_wp2_with fail
  refine (lowest_run n _).mono ?_
  rintro e v1 ⟨rfl, hb1⟩
  replace g0 := g0.kept hb1
  replace hB := hB.trans (hb1.mono hB.size)
  clear hb1
  go_wp2_with fail
  refine (behindZ_run (digN n) _).mono ?_
  rintro e v2 ⟨rfl, hb2⟩
  replace g0 := g0.kept hb2
  replace hB := hB.trans (hb2.mono hB.size)
  clear hb2
  go_wp2_with (refine st_arr isArr12 g0 (by rfl) (by rfl) ?_; intro v4 g4 o4; refine Hid.out ?_)
  refine Hid.mk ?_
  go_wp2_with fail
  exact bodyPost_ret (res_arr Try.results18 isArr12 g4 (by rfl)) rfl ⟨rfl, hB.trans (o4.below (Nat.le_refl _))⟩
end Go.Proofs.Ytfkgfojofdachaa
/-
  Own text. What narrow of package aead answers; the document's narrow.
-/
namespace Go.Proofs.Ytfkgfojofdachaa
open Go.RowKit Go.Proofs
set_option maxRecDepth 100000
theorem enterDerive (args : Array Value) (w : World) : (callFunc 39 args).run Try.prog w = .ok (.enter 39 args) w := by kernel_rfl
theorem enterBehindZ (args : Array Value) (w : World) : (callFunc 27 args).run Try.prog w = .ok (.enter 27 args) w := by kernel_rfl
theorem enterRDerive (args : Array Value) (w : World) : (callFunc 43 args).run Try.prog w = .ok (.enter 43 args) w := by kernel_rfl
theorem heap_a41 (w : World) (A B C D : Obj) : ((((w.alloc A).alloc B).alloc C).alloc D).heap[w.heap.size]? = some A := by
  have h := heap_a31 w A B C
  have hl : w.heap.size < (((w.alloc A).alloc B).alloc C).heap.size := heap_lt h
  rw [← h]
  exact heap_alloc_old _ _ hl
theorem heap_a42 (w : World) (A B C D : Obj) : ((((w.alloc A).alloc B).alloc C).alloc D).heap[w.heap.size + 1]? = some B := by
  have h := heap_a32 w A B C
  have hl : w.heap.size + 1 < (((w.alloc A).alloc B).alloc C).heap.size := heap_lt h
  rw [← h]
  exact heap_alloc_old _ _ hl
theorem heap_a43 (w : World) (A B C D : Obj) : ((((w.alloc A).alloc B).alloc C).alloc D).heap[w.heap.size + 1 + 1]? = some C := by
  have h := heap_a3 w A B C
  have hl : w.heap.size + 1 + 1 < (((w.alloc A).alloc B).alloc C).heap.size := heap_lt h
  rw [← h]
  exact heap_alloc_old _ _ hl
theorem dv_byts (f : Nat → Int) (n : Nat) : ∀ k, Byts n (dv f k)
  | 0 => fun i _ => by
    show 0 ≤ (0 : Int) ∧ (0 : Int) < 256
    omega
  | k + 1 => putw_byts (putw_byts (dv_byts f n k))
theorem der_b (key inn : Nat → Int) : Byts 32 (der key inn) := dv_byts _ _ _
theorem toarr16 (b f cap : Nat) (w : World) : (Instr.arrayAt 42 (.slice (some ⟨b, f, none⟩) 16 cap)).run Try.prog w = .ok (.pointer (some ⟨b, f, none⟩)) w := by simp [go_sem, Instr.arrayAt]
theorem toarr8 (b f cap : Nat) (w : World) : (Instr.arrayAt 47 (.slice (some ⟨b, f, none⟩) 8 cap)).run Try.prog w = .ok (.pointer (some ⟨b, f, none⟩)) w := by simp [go_sem, Instr.arrayAt]
theorem zero32 (w : World) : (zeroValue 22).run Try.prog w = .ok (.agg (WA .u8 32 fun _ => 0)) w := by kernel_rfl
set_option maxHeartbeats 8000000 in
theorem narrow_run (key nn : Nat → Int) (w : World) (hk : Byts 32 key) (hn : Byts 24 nn) :
    Calls Try.prog 23 #[.agg (WA .u8 32 key), .agg (WA .u8 24 nn)] w fun e w' => e = .returned (.tuple #[.agg (WA .u8 32 (der key nn)), .agg (WA .u8 12 (tailN fun j => nn (16 + j)))]) ∧ Below w.heap.size w w' := by
  have g0 : ArrAt ((((w.alloc (.cells (WA .u8 32 key) 22)).alloc (.cells (WA .u8 24 nn) 23)).alloc (.cells (WA .u8 32 fun _ => 0) 22)).alloc (.cells (WA .u8 12 fun _ => 0) 24)) w.heap.size .u8 22 32 key := heap_a41 w _ _ _ _
  have g1 : ArrAt ((((w.alloc (.cells (WA .u8 32 key) 22)).alloc (.cells (WA .u8 24 nn) 23)).alloc (.cells (WA .u8 32 fun _ => 0) 22)).alloc (.cells (WA .u8 12 fun _ => 0) 24)) (w.heap.size + 1) .u8 23 24 nn := heap_a42 w _ _ _ _
  have g2 : ArrAt ((((w.alloc (.cells (WA .u8 32 key) 22)).alloc (.cells (WA .u8 24 nn) 23)).alloc (.cells (WA .u8 32 fun _ => 0) 22)).alloc (.cells (WA .u8 12 fun _ => 0) 24)) (w.heap.size + 1 + 1) .u8 22 32 (fun _ => 0) := heap_a43 w _ _ _ _
  have g3 : ArrAt ((((w.alloc (.cells (WA .u8 32 key) 22)).alloc (.cells (WA .u8 24 nn) 23)).alloc (.cells (WA .u8 32 fun _ => 0) 22)).alloc (.cells (WA .u8 12 fun _ => 0) 24)) (w.heap.size + 1 + 1 + 1) .u8 24 12 (fun _ => 0) := heap_a4 w _ _ _ _
  have hB : Below w.heap.size w ((((w.alloc (.cells (WA .u8 32 key) 22)).alloc (.cells (WA .u8 24 nn) 23)).alloc (.cells (WA .u8 32 fun _ => 0) 22)).alloc (.cells (WA .u8 12 fun _ => 0) 24)) := ((((Below.refl _ w).alloc (by simp) _).alloc (by simp) _).alloc (by simp; omega) _).alloc (by simp; omega) _
  have HI : Hid (Byts 16 nn) := Hid.mk (fun i hi => hn i (by omega))
  have HK := Hid.mk hk
  go_enter Try.func23, Try.ntmps23
  go_wp2_with fail
  refine wp_gen (fun v => ArrAt v w.heap.size .u8 22 32 (key) ∧ ArrAt v (w.heap.size + 1) .u8 23 24 (nn) ∧ ArrAt v (w.heap.size + 1 + 1) .u8 22 32 (fun _ => 0) ∧ ArrAt v (w.heap.size + 1 + 1 + 1) .u8 24 12 (fun _ => 0) ∧ Below w.heap.size w v) ⟨g0, g1, g2, g3, hB⟩ ?_
  clear g0 g1 g2 g3 hB
  rintro v0 ⟨g0, g1, g2, g3, hB⟩
  have hz := g3.lt
  refine wp_region3 (Below w.heap.size w) v0.heap.size
    [(w.heap.size, fixd (WA .u8 32 (key)) 22), ((w.heap.size + 1), fixd (WA .u8 24 (nn)) 23), ((w.heap.size + 1 + 1), fixd (WA .u8 32 (fun _ => 0)) 22), ((w.heap.size + 1 + 1 + 1), fixd (WA .u8 12 (fun _ => 0)) 24)]
    [kv (.agg (WA .u8 32 key)), kv (.slice (some ⟨(w.heap.size + 1), 0, none⟩) 16 24), kv (.pointer (some ⟨(w.heap.size + 1), 0, none⟩)), kv (.agg (WA .u8 16 nn)), kv (.agg (WA .u8 32 (der key nn))), kp (WA .u8 32 fun _ => 0) 22 6 (WA .u8 32 (der key nn)), .val fun _ => True]
    [.none, .none, .none, .none, .none, .none, .own 5 1]
    [some 7, some 8, some 9, some 10, some 11, some 6, none]
    [(2, .pointer (some ⟨w.heap.size, 0, none⟩)), (3, .pointer (some ⟨(w.heap.size + 1), 0, none⟩))]
    [[.base 0 0], [], [.slot 1], [.slot 2, .base 1 0], [.slot 0, .slot 3], [], [.slot 5, .cont 5 0, .slot 4]]
    [.base 0 0, .base 1 0, .base 2 0, .base 3 0, .slot 5, .cont 5 1] [7, 8, 9, 10, 11, 6]
    rfl (by kernel_rfl) ⟨rfl, rfl, trivial⟩ (Below.drew hB) (Nat.le_refl _) ⟨⟨g0.lt, obIn g0⟩, ⟨g1.lt, obIn g1⟩, ⟨g2.lt, obIn g2⟩, ⟨g3.lt, obIn g3⟩, trivial⟩ ⟨⟨trivial, trivial, trivial, trivial⟩, ⟨trivial, trivial, trivial⟩, ⟨trivial, trivial⟩, trivial, trivial⟩ (below_G hB.size ⟨by omega, by omega, by omega, by omega, trivial⟩)
    ⟨
      -- 0
      (fun Q aq ww own hS hBg fr kn => .inl ⟨trivial, fun K hK => wp_value (look_arr rfl isArr32 (obAt kn.1) fr.1) (hK _ _ ⟨Touch.refl _ _, rfl⟩)⟩),
      -- 1
      (fun Q aq ww own hS hBg fr kn => .inl ⟨trivial, fun K hK => wp_value (exec_slH (v := .pointer (some ⟨(w.heap.size + 1), 0, none⟩)) (u := .int .i64 16) rfl fr.2.1 rfl (sl24H16 (w.heap.size + 1) ww)) (hK _ _ ⟨Touch.refl _ _, rfl⟩)⟩),
      -- 2
      (fun Q aq ww own hS hBg fr kn => .inl ⟨trivial, fun K hK => wp_value (exec_toarr rfl kn.1 (toarr16 _ _ _ ww)) (hK _ _ ⟨Touch.refl _ _, rfl⟩)⟩),
      -- 3
      (fun Q aq ww own hS hBg fr kn => .inl ⟨trivial, fun K hK => wp_value (exec_part0 rfl isArr16 (obAt kn.2.1) (by omega) kn.1) (hK _ _ ⟨Touch.refl _ _, rfl⟩)⟩),
      -- 4
      (fun Q aq ww own hS hBg fr kn => .inl ⟨trivial, fun K hK => stepc enterDerive rfl (args2 kn.1 kn.2.1) (Derive_run key nn ww HK.out HI.out) (fun w' hb => hK _ _ ⟨touch_below hb, rfl⟩)⟩),
      -- 5
      (fun Q aq ww own hS hBg fr kn => .inl ⟨trivial, fun K hK => act_alloc zero32 rfl (fun w' hb hg => hK _ _ ⟨touch_below hb, _, Nat.le_refl _, rfl, obIn hg⟩)⟩),
      -- 6
      (fun Q aq ww own hS hBg fr kn => .inl ⟨trivial, fun K hK => act_arr rfl isArr32 kn.1.1 kn.2.2.1 (obAt kn.2.1) (fun w2 hg ho => hK _ _ ⟨touch_only ho, obIn hg, trivial⟩)⟩),
      trivial⟩ ?_
  intro vs own v1 hB1 hs1 kn inj
  clear inj g0 g1 g2 g3 hB
  have g0 : ArrAt v1 w.heap.size .u8 22 32 (key) := obAt kn.1
  have g1 : ArrAt v1 (w.heap.size + 1) .u8 23 24 (nn) := obAt kn.2.1
  have g2 : ArrAt v1 (w.heap.size + 1 + 1) .u8 22 32 (fun _ => 0) := obAt kn.2.2.1
  have g3 : ArrAt v1 (w.heap.size + 1 + 1 + 1) .u8 24 12 (fun _ => 0) := obAt kn.2.2.2.1
  obtain ⟨e6, hb6, _⟩ := kn.2.2.2.2.1
  change vs 6 = _ at e6
  have gD : ArrAt v1 (own 5) .u8 22 32 (der key nn) := obAt kn.2.2.2.2.2.1
  have hB := hB1
  clear kn hB1 hs1
  simp only [putAll, Act.put, List.setIfInBounds_toArray, List.set_cons_zero, List.set_cons_succ, e6]
  generalize own 5 = bD at *
  go_wp2_with fail
  refine wp_gen (fun v => ArrAt v (w.heap.size + 1 + 1) .u8 22 32 (fun _ => 0) ∧ ArrAt v (w.heap.size + 1 + 1 + 1) .u8 24 12 (fun _ => 0) ∧ ArrAt v bD .u8 22 32 (der key nn) ∧ ArrAt v (w.heap.size + 1) .u8 23 24 (nn) ∧ Below w.heap.size w v) ⟨g2, g3, gD, g1, hB⟩ ?_
  clear g2 g3 gD g1 hB
  rintro v2 ⟨g2, g3, gD, g1, hB⟩
  refine wp_region3 (Below w.heap.size w) v2.heap.size
    [((w.heap.size + 1 + 1), once (WA .u8 32 (fun _ => 0)) 22 5 (WA .u8 32 (der key nn))), ((w.heap.size + 1 + 1 + 1), once (WA .u8 12 (fun _ => 0)) 24 6 (WA .u8 12 (tailN fun j => nn (16 + j)))), (bD, fixd (WA .u8 32 (der key nn)) 22), ((w.heap.size + 1), fixd (WA .u8 24 (nn)) 23)]
    [kv (.agg (WA .u8 32 (der key nn))), kv (.slice (some ⟨(w.heap.size + 1), 16, none⟩) 8 8), kv (.pointer (some ⟨(w.heap.size + 1), 16, none⟩)), kv (.agg (WA .u8 8 fun j => nn (16 + j))), kv (.agg (WA .u8 12 (tailN fun j => nn (16 + j)))), .val fun _ => True, .val fun _ => True]
    [.none, .none, .none, .none, .none, .base 0 1, .base 1 1]
    [some 12, some 13, some 14, some 15, some 16, none, none]
    [(6, .pointer (some ⟨bD, 0, none⟩)), (3, .pointer (some ⟨(w.heap.size + 1), 0, none⟩)), (4, .pointer (some ⟨(w.heap.size + 1 + 1), 0, none⟩)), (5, .pointer (some ⟨(w.heap.size + 1 + 1 + 1), 0, none⟩))]
    [[.base 2 0], [], [.slot 1], [.slot 2, .base 3 0], [.slot 3], [.slot 0, .base 0 0], [.slot 4, .base 1 0]]
    [.base 0 1, .base 1 1, .base 2 0, .base 3 0] [12, 13, 14, 15, 16]
    rfl (by kernel_rfl) ⟨rfl, rfl, rfl, rfl, trivial⟩ (Below.drew hB) (Nat.le_refl _) ⟨⟨g2.lt, obIn g2⟩, ⟨g3.lt, obIn g3⟩, ⟨gD.lt, obIn gD⟩, ⟨g1.lt, obIn g1⟩, trivial⟩ ⟨⟨(show ((w.heap.size + 1 + 1) : Nat) ≠ (w.heap.size + 1 + 1 + 1) from by omega), (show ((w.heap.size + 1 + 1) : Nat) ≠ bD from by omega), (show ((w.heap.size + 1 + 1) : Nat) ≠ (w.heap.size + 1) from by omega), trivial⟩, ⟨(show ((w.heap.size + 1 + 1 + 1) : Nat) ≠ bD from by omega), (show ((w.heap.size + 1 + 1 + 1) : Nat) ≠ (w.heap.size + 1) from by omega), trivial⟩, ⟨trivial, trivial⟩, trivial, trivial⟩ (below_G hB.size ⟨by omega, by omega, by omega, by omega, trivial⟩)
    ⟨
      -- 0
      (fun Q aq ww own hS hBg fr kn => .inl ⟨trivial, fun K hK => wp_value (look_arr rfl isArr32 (obAt kn.1) fr.1) (hK _ _ ⟨Touch.refl _ _, rfl⟩)⟩),
      -- 1
      (fun Q aq ww own hS hBg fr kn => .inl ⟨trivial, fun K hK => wp_value (exec_slL (v := .pointer (some ⟨(w.heap.size + 1), 0, none⟩)) (u := .int .i64 16) rfl fr.2.1 rfl (sl24L16 (w.heap.size + 1) ww)) (hK _ _ ⟨Touch.refl _ _, rfl⟩)⟩),
      -- 2
      (fun Q aq ww own hS hBg fr kn => .inl ⟨trivial, fun K hK => wp_value (exec_toarr rfl kn.1 (toarr8 _ _ _ ww)) (hK _ _ ⟨Touch.refl _ _, rfl⟩)⟩),
      -- 3
      (fun Q aq ww own hS hBg fr kn => .inl ⟨trivial, fun K hK => wp_value (exec_part 16 rfl isArr8 (obAt kn.2.1) (by omega) kn.1) (hK _ _ ⟨Touch.refl _ _, rfl⟩)⟩),
      -- 4
      (fun Q aq ww own hS hBg fr kn => .inl ⟨trivial, fun K hK => stepc enterBehindZ rfl (args1 kn.1) (behindZ_run _ ww) (fun w' hb => hK _ _ ⟨touch_below hb, rfl⟩)⟩),
      -- 5
      (fun Q aq ww own hS hBg fr kn => .inl ⟨trivial, fun K hK => act_arr rfl isArr32 fr.2.2.1 kn.1 (obAt kn.2.1) (fun w2 hg ho => hK _ _ ⟨⟨touch_only ho, obIn hg⟩, trivial⟩)⟩),
      -- 6
      (fun Q aq ww own hS hBg fr kn => .inl ⟨trivial, fun K hK => act_arr rfl isArr12 fr.2.2.2.1 kn.1 (obAt kn.2.1) (fun w2 hg ho => hK _ _ ⟨⟨touch_only ho, obIn hg⟩, trivial⟩)⟩),
      trivial⟩ ?_
  intro vs own v3 hB1 hs1 kn inj
  clear inj g2 g3 gD g1 hB
  have g2 : ArrAt v3 (w.heap.size + 1 + 1) .u8 22 32 (der key nn) := obAt kn.1
  have g3 : ArrAt v3 (w.heap.size + 1 + 1 + 1) .u8 24 12 (tailN fun j => nn (16 + j)) := obAt kn.2.1
  have gD : ArrAt v3 bD .u8 22 32 (der key nn) := obAt kn.2.2.1
  have g1 : ArrAt v3 (w.heap.size + 1) .u8 23 24 (nn) := obAt kn.2.2.2.1
  have hB := hB1
  clear kn hB1 hs1
  simp only [putAll, Act.put, List.setIfInBounds_toArray, List.set_cons_zero, List.set_cons_succ]
  go_wp2_with fail
  exact bodyPost_ret (results_cells2 Try.results23 _ _ (w.heap.size + 1 + 1) (w.heap.size + 1 + 1 + 1) (by rfl) (by rfl) (WA .u8 32 (der key nn)) (WA .u8 12 (tailN fun j => nn (16 + j))) g2 g3 (by rw [WA_size]; kernel_rfl) (by rw [WA_size]; kernel_rfl) Try.underlying22 rfl Try.underlying24 rfl) rfl ⟨rfl, hB⟩
end Go.Proofs.Ytfkgfojofdachaa
