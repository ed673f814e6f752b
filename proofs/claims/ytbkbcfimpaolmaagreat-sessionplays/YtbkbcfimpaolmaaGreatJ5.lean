/-
  Own text. What Stream of the document's answer gives: the same text.
-/
import Derived.Test.YtbkbcfimpaolmaaGreatJ4
import Derived.Laws.IdiomStrings
import Derived.Test.YtbkbcfimpaolmaaGreatJ3
import Derived.Laws.AppendOwnNone
import Derived.Test.YtbkbcfimpaolmaaGreatJ2
import Derived.Test.YtbkbcfimpaolmaaGreatJ1
import Derived.BigQuiet
namespace Go.Proofs.YtbkbcfimpaolmaaGreat
open Go.RowKit Go.Proofs
set_option maxRecDepth 100000
/-- A text, of which the first i bytes are under the key stream. -/
def mix (g t : Nat → Int) (i : Nat) (j : Nat) : Int := if j < i then g j else t j
theorem mix_step (g t : Nat → Int) (i : Nat) (v : Int) (h : v = g i) : upd (mix g t i) i v = mix g t (i + 1) := by
  subst h
  funext j
  unfold upd mix
  by_cases e : j = i
  · subst e; simp
  · rw [if_neg e]
    by_cases h : j < i
    · rw [if_pos h, if_pos (by omega)]
    · rw [if_neg h, if_neg (by omega)]
set_option maxHeartbeats 4000000 in
set_option maxRecDepth 100000 in
theorem rStream_run (key nonce : Nat → Int) (c : Int) (s : ByteArray) (w : World) (hk : Byts 32 key) (hn : Byts 12 nonce) (hc : W32 c) (hs : s.size ≤ 140737488355328) :
    Calls Tryz.prog 43 #[.agg (WA .u8 32 key), .int .u32 c, .agg (WA .u8 12 nonce), .string s] w fun e w' => e = .returned (.string (mkS s.size (strm key nonce c s))) ∧ Below w.heap.size w w' := by
  have g0 : ArrAt ((w.alloc (.cells (WA .u8 32 key) 27)).alloc (.cells (WA .u8 12 nonce) 65)) w.heap.size .u8 27 32 key := heap_alloc2_old w _ _
  have g1 : ArrAt ((w.alloc (.cells (WA .u8 32 key) 27)).alloc (.cells (WA .u8 12 nonce) 65)) (w.heap.size + 1) .u8 65 12 nonce := heap_alloc2_new w _ _
  have hB : Below w.heap.size w ((w.alloc (.cells (WA .u8 32 key) 27)).alloc (.cells (WA .u8 12 nonce) 65)) := ((Below.refl _ w).alloc (by simp) _).alloc (by simp) _
  obtain ⟨cp, v1, hcv, hR, hb1⟩ := conv_str s ((w.alloc (.cells (WA .u8 32 key) 27)).alloc (.cells (WA .u8 12 nonce) 65))
  rw [show ((w.alloc (.cells (WA .u8 32 key) 27)).alloc (.cells (WA .u8 12 nonce) 65)).heap.size = w.heap.size + 1 + 1 by simp] at hcv hR
  replace g0 := g0.kept hb1
  replace g1 := g1.kept hb1
  replace hB := hB.trans (hb1.mono hB.size)
  clear hb1
  go_enter Tryz.func43, Tryz.ntmps43
  go_wp2_with fail
  clear hcv
  obtain ⟨b9, hb9⟩ : ∃ b, w.heap.size + 1 + 1 = b := ⟨_, rfl⟩
  rw [hb9] at hR ⊢
  obtain ⟨N, hN⟩ : ∃ N : Nat, (s.size + 63) / 64 = N := ⟨_, rfl⟩
  go_loopg [1, 10] N (fun m cv i v => ∃ q : Nat, Hid (m + q = N) ∧ cv = .int .u32 ((c + (q : Nat)) % 4294967296) ∧ i = .int .i64 ((min (64 * q) s.size : Nat) : Int) ∧ ArrAt v w.heap.size .u8 27 32 key ∧ ArrAt v (w.heap.size + 1) .u8 65 12 nonce ∧ RowAt v b9 .u8 5 s.size (mix (strm key nonce c s) (txt s) (min (64 * q) s.size)) ∧ Below w.heap.size w v)
  case atStart => exact ⟨0, Hid.mk (by omega), by unfold W32 at hc; congr 1; omega, by simp, g0, g1, hR.mono (Nat.le_refl _) (fun i _ => by simp [mix]), hB⟩
  case round =>
    clear g0 g1 hR hB
    obtain ⟨q, HQ, rfl, rfl, g0, g1, hR, hB⟩ := hrel
    have hqN : q ≤ N := by have := HQ.out; omega
    by_cases hlt : q < N
    · have hqs : 64 * q < s.size := by omega
      have hm : min (64 * q) s.size = 64 * q := by omega
      rw [hm] at hR ⊢
      go_wp2_with (first | (refine ld_arr isArr32 g0 (by rfl) ?_) | (refine ld_arr isArr12 g1 (by rfl) ?_))
      refine (rBlock_run key nonce ((c + (q : Nat)) % 4294967296) _ hk hn (by unfold W32; omega)).mono ?_
      rintro e v4 ⟨rfl, hb4⟩
      replace g0 := g0.kept hb4
      replace g1 := g1.kept hb4
      have hz4 : b9 < v4.heap.size := Nat.lt_of_lt_of_le hR.lt hb4.size
      replace hR := hR.below hb4 hR.lt
      replace hB := hB.trans (hb4.mono hB.size)
      clear hb4
      have hbk := blk_b (ssq key ((c + (q : Nat)) % 4294967296) nonce 3)
      obtain ⟨bk, HK2⟩ : ∃ bk, Hid (blk (ssq key ((c + (q : Nat)) % 4294967296) nonce 3) = bk) := ⟨_, Hid.mk rfl⟩
      rw [HK2.out] at hbk ⊢
      go_wp2_with (first | (refine st_arr (s' := fun _ => 0) (k' := .u8) isArr64 (heap_alloc_new v4 _) (by rfl) (by rfl) ?_; intro v5 g5 o5; refine Hid.out ?_))
      replace g0 := (g0.alloc _).only o5 (Nat.ne_of_lt g0.lt)
      replace g1 := (g1.alloc _).only o5 (Nat.ne_of_lt g1.lt)
      replace hR := (hR.alloc _).only o5 (Nat.ne_of_lt hz4)
      replace hB := (hB.alloc hB.size _).trans (o5.below hB.size)
      clear o5
      generalize v4.heap.size = b11 at *
      refine Hid.mk ?_
      have hd : decide (((64 * q : Nat) : Int) < (s.size : Int)) = true := by simp; omega
      go_wp2_with fail
      obtain ⟨n, hnn⟩ : ∃ n : Nat, min 64 (s.size - 64 * q) = n := ⟨_, rfl⟩
      generalize wr = wo at *
      generalize gk = go at *
      go_loopg [10, 12] n (fun m i jv v => ∃ j : Nat, Hid (m + j = n) ∧ i = .int .i64 ((64 * q + j : Nat) : Int) ∧ jv = .int .i64 (j : Int) ∧ ArrAt v w.heap.size .u8 27 32 key ∧ ArrAt v (w.heap.size + 1) .u8 65 12 nonce ∧ ArrAt v b11 .u8 97 64 bk ∧ RowAt v b9 .u8 5 s.size (mix (strm key nonce c s) (txt s) (64 * q + j)) ∧ Below w.heap.size w v)
      case atStart => exact ⟨0, Hid.mk (by omega), by go_num, rfl, g0, g1, g5, hR, hB⟩
      case round =>
        clear g0 g1 hR hB g5
        obtain ⟨j, HJ, rfl, rfl, g0, g1, g5, hR, hB⟩ := hrel
        have hjn : j ≤ n := by have := HJ.out; omega
        by_cases hjl : j < n
        · have hj64 : j < 64 := by omega
          have hjs : 64 * q + j < s.size := by omega
          have HX : Hid (xorw (mix (strm key nonce c s) (txt s) (64 * q + j) (64 * q + j)) (bk j) = strm key nonce c s (64 * q + j)) := Hid.mk (by
            have e1 : (64 * q + j) / 64 = q := by omega
            have e2 : (64 * q + j) % 64 = j := by omega
            unfold mix strm ksb
            rw [if_neg (by omega), e1, e2, HK2.out])
          have hmb : 0 ≤ mix (strm key nonce c s) (txt s) (64 * q + j) (64 * q + j) ∧ mix (strm key nonce c s) (txt s) (64 * q + j) (64 * q + j) < 256 := by
            unfold mix
            rw [if_neg (by omega)]
            exact txt_b _ _
          obtain ⟨i, hi⟩ : ∃ i, 64 * q + j = i := ⟨_, rfl⟩
          rw [hi] at HX hmb hR hjs ⊢
          have hic : (i : Int) < (s.size : Int) := by omega
          go_wp2_with fail
          refine wp_region3 (Below w.heap.size w) wr.heap.size
            [(w.heap.size, fixd (WA .u8 32 key) 27), ((w.heap.size + 1), fixd (WA .u8 12 nonce) 65), (b11, fixd (WA .u8 64 bk) 97), (b9, ⟨rowOb .u8 5 s.size (mix (strm key nonce c s) (txt s) i), [(11, rowOb .u8 5 s.size (mix (strm key nonce c s) (txt s) (i + 1)))]⟩)]
            [kv (.slice (some ⟨b9, 0, none⟩) s.size cp), kv (.int .i64 (i : Int)), kv (.slice (some ⟨b9, 0, none⟩) s.size cp), kv (.int .i64 (i : Int)), kv (.pointer (some ⟨b9, 0 + i, none⟩)), kv (.int .u8 (mix (strm key nonce c s) (txt s) i i)), kv (.int .i64 (j : Int)), kv (.pointer (some ⟨b11, j, none⟩)), kv (.int .u8 (bk j)), kv (.int .u8 (xorw (mix (strm key nonce c s) (txt s) i i) (bk j))), kv (.pointer (some ⟨b9, 0 + i, none⟩)), .val fun _ => True]
            [.none, .none, .none, .none, .none, .none, .none, .none, .none, .none, .none, .base 3 1]
            [some 33, some 34, some 35, some 36, some 37, some 38, some 39, some 40, some 41, some 42, some 43, none]
            [(9, .slice (some ⟨b9, 0, none⟩) s.size cp), (10, .int .i64 (i : Int)), (11, .pointer (some ⟨b11, 0, none⟩)), (12, .int .i64 (j : Int))]
            [[], [], [], [], [.slot 2, .slot 3], [.slot 4, .base 3 0], [], [.slot 6], [.slot 7, .base 2 0], [.slot 5, .slot 8], [.slot 0, .slot 1], [.slot 10, .slot 9, .base 3 0]]
            [.base 0 0, .base 1 0, .base 2 0, .base 3 1] [33, 34, 35, 36, 37, 38, 39, 40, 41, 42, 43]
            rfl (by kernel_rfl) ⟨rfl, rfl, rfl, rfl, trivial⟩ (Below.drew hB) (Nat.le_refl _) ⟨⟨g0.lt, obIn g0⟩, ⟨g1.lt, obIn g1⟩, ⟨g5.lt, obIn g5⟩, ⟨hR.lt, hR⟩, trivial⟩ ⟨⟨trivial, trivial, (show (w.heap.size : Nat) ≠ b9 from by omega), trivial⟩, ⟨trivial, (show ((w.heap.size + 1) : Nat) ≠ b9 from by omega), trivial⟩, ⟨(show (b11 : Nat) ≠ b9 from by omega), trivial⟩, trivial, trivial⟩ (below_G hB.size ⟨by omega, by omega, by omega, by omega, trivial⟩)
            ⟨
              -- 0
              (fun Q aq ww own hS hBg fr kn => .inl ⟨trivial, fun K hK => wp_value (exec_move rfl fr.1) (hK _ _ ⟨Touch.refl _ _, rfl⟩)⟩),
              -- 1
              (fun Q aq ww own hS hBg fr kn => .inl ⟨trivial, fun K hK => wp_value (exec_move rfl fr.2.1) (hK _ _ ⟨Touch.refl _ _, rfl⟩)⟩),
              -- 2
              (fun Q aq ww own hS hBg fr kn => .inl ⟨trivial, fun K hK => wp_value (exec_move rfl fr.1) (hK _ _ ⟨Touch.refl _ _, rfl⟩)⟩),
              -- 3
              (fun Q aq ww own hS hBg fr kn => .inl ⟨trivial, fun K hK => wp_value (exec_move rfl fr.2.1) (hK _ _ ⟨Touch.refl _ _, rfl⟩)⟩),
              -- 4
              (fun Q aq ww own hS hBg fr kn => .inl ⟨trivial, fun K hK => wp_value (exec_idx rfl Tryz.underlying67 size_byte kn.1 kn.2.1 hjs) (hK _ _ ⟨Touch.refl _ _, rfl⟩)⟩),
              -- 5
              (fun Q aq ww own hS hBg fr kn => .inl ⟨trivial, fun K hK => wp_value (exec_ld rfl kn.1 (run_load8 (cell8 kn.2.1 hjs))) (hK _ _ ⟨Touch.refl _ _, rfl⟩)⟩),
              -- 6
              (fun Q aq ww own hS hBg fr kn => .inl ⟨trivial, fun K hK => wp_value (exec_move rfl fr.2.2.2.1) (hK _ _ ⟨Touch.refl _ _, rfl⟩)⟩),
              -- 7
              (fun Q aq ww own hS hBg fr kn => .inl ⟨trivial, fun K hK => wp_value (exec_idxA rfl Tryz.underlying97 len64 sizeB64 fr.2.2.1 kn.1 hj64) (hK _ _ ⟨Touch.refl _ _, rfl⟩)⟩),
              -- 8
              (fun Q aq ww own hS hBg fr kn => .inl ⟨trivial, fun K hK => wp_value (exec_ld rfl kn.1 (run_load8 (ArrAt.cell (obAt kn.2.1) j hj64))) (hK _ _ ⟨Touch.refl _ _, rfl⟩)⟩),
              -- 9
              (fun Q aq ww own hS hBg fr kn => .inl ⟨trivial, fun K hK => wp_value (exec_xor8 rfl kn.1 kn.2.1 hmb (hbk j hj64)) (hK _ _ ⟨Touch.refl _ _, rfl⟩)⟩),
              -- 10
              (fun Q aq ww own hS hBg fr kn => .inl ⟨trivial, fun K hK => wp_value (exec_idx rfl Tryz.underlying67 size_byte kn.1 kn.2.1 hjs) (hK _ _ ⟨Touch.refl _ _, rfl⟩)⟩),
              -- 11
              (fun Q aq ww own hS hBg fr kn => .inl ⟨trivial, fun K hK => act_row8 rfl (ptr0 kn.1) kn.2.1 kn.2.2.1 hjs (fun w2 hg ho => hK _ _ ⟨⟨touch_only ho, mix_step _ _ i _ HX.out ▸ hg⟩, trivial⟩)⟩),
              trivial⟩ ?_
          intro vs6 own6 v6 hB6 hs6 kn inj
          clear inj hs6
          have G0 : ArrAt v6 w.heap.size .u8 27 32 key := obAt kn.1
          have G1 : ArrAt v6 (w.heap.size + 1) .u8 65 12 nonce := obAt kn.2.1
          have G5 : ArrAt v6 b11 .u8 97 64 bk := obAt kn.2.2.1
          have R6 : RowAt v6 b9 .u8 5 s.size (mix (strm key nonce c s) (txt s) (i + 1)) := kn.2.2.2.1
          clear kn
          simp only [putAll, Act.put, List.setIfInBounds_toArray, List.set_cons_zero, List.set_cons_succ]
          go_wp2_with fail
          go_roundg (n - (j + 1))
          case rel => exact ⟨j + 1, Hid.mk (by omega), by go_num, by go_num, G0, G1, G5, by rw [← Nat.add_assoc, hi]; exact R6, hB6⟩
          case measure => have := HJ.out; omega
        · have hj2 : j = n := by omega
          subst hj2
          clear hjl hjn HJ
          have hx : 64 * q + j = min (64 * (q + 1)) s.size := by omega
          have hend : ¬ ((j : Int) < 64 ∧ ((64 * q + j : Nat) : Int) < (s.size : Int)) := by omega
          rw [hx] at hR
          by_cases hj64 : (j : Int) < 64
          · have hns : ¬ (((64 * q + j : Nat) : Int) < (s.size : Int)) := by omega
            go_wp2_with fail
            go_roundg (N - (q + 1))
            case rel => exact ⟨q + 1, Hid.mk (by omega), congrArg (Value.int .u32) (by omega), by rw [← hx], g0, g1, hR, hB⟩
            case measure => have := HQ.out; omega
          · go_wp2_with fail
            go_roundg (N - (q + 1))
            case rel => exact ⟨q + 1, Hid.mk (by omega), congrArg (Value.int .u32) (by omega), by rw [← hx], g0, g1, hR, hB⟩
            case measure => have := HQ.out; omega
    · have hk2 : q = N := by omega
      subst hk2
      have hall : min (64 * q) s.size = s.size := by omega
      rw [hall] at hR ⊢
      have hback := str_back s.size b9 cp wr s.size (strm key nonce c s) (hR.mono (Nat.le_refl _) (fun i hi => by unfold mix; rw [if_pos hi])) (fun j _ => strm_b key nonce c s j) rfl
      go_wp2_with fail
      go_ret
      exact ⟨rfl, hB⟩
end Go.Proofs.YtbkbcfimpaolmaaGreat
/-
  Own text. The document's answer for aead: the mark.
-/
namespace Go.Proofs.YtbkbcfimpaolmaaGreat
open Go.RowKit Go.Proofs
set_option maxRecDepth 100000
theorem enterWhole (args : Array Value) (w : World) : (callFunc 62 args).run Tryz.prog w = .ok (.enter 62 args) w := by kernel_rfl
theorem enterEight (args : Array Value) (w : World) : (callFunc 45 args).run Tryz.prog w = .ok (.enter 45 args) w := by kernel_rfl
theorem enterRTag (args : Array Value) (w : World) : (callFunc 61 args).run Tryz.prog w = .ok (.enter 61 args) w := by kernel_rfl
/-- The key for one use. -/
def onceK (key nonce : Nat → Int) : Nat → Int := over (fun _ => 0) 0 32 (blk (ssq key 0 nonce 3))
/-- What is marked. -/
def marked (under beside : ByteArray) : ByteArray := padZ beside ++ padZ under ++ mkS 8 (digN (beside.size : Int)) ++ mkS 8 (digN (under.size : Int))
def markT (key nonce : Nat → Int) (under beside : ByteArray) : ByteArray := mkS 16 (digN (markN (onceK key nonce) (txt (marked under beside)) (marked under beside).size))
theorem onceK_b (key nonce : Nat → Int) : Byts 32 (onceK key nonce) := fun i hi => by
  unfold onceK over
  split
  · exact blk_b _ _ (by omega)
  · show 0 ≤ (0 : Int) ∧ (0 : Int) < 256
    omega
theorem padZ_size (s : ByteArray) : (padZ s).size ≤ s.size + 15 := by
  unfold padZ
  rw [ByteArray.size_append, mkS_size]
  omega
theorem zero16 (w : World) : (zeroValue 92).run Tryz.prog w = .ok (.agg (WA .u8 16 fun _ => 0)) w := by kernel_rfl
theorem conv_iu {n : Int} (h : 0 ≤ n ∧ n < 18446744073709551616) (w : World) : (convert 3 31 (.int .i64 n)).run Tryz.prog w = .ok (.int .u64 n) w := by
  simp [go_sem, w64 (z := n) h.1 h.2]
theorem sl64h (b : Nat) (w : World) : (Instr.sliceAt 97 (.pointer (some ⟨b, 0, none⟩)) none (some (.int .i64 32)) none).run Tryz.prog w = .ok (.slice (some ⟨b, 0, none⟩) 32 64) w := by simp [go_sem]
theorem sl16w (b : Nat) (w : World) : (Instr.sliceAt 92 (.pointer (some ⟨b, 0, none⟩)) none none none).run Tryz.prog w = .ok (.slice (some ⟨b, 0, none⟩) 16 16) w := by simp [go_sem]
set_option maxHeartbeats 8000000 in
theorem rmark_run (key nonce : Nat → Int) (under beside : ByteArray) (w : World) (hk : Byts 32 key) (hn : Byts 12 nonce) (hu : under.size ≤ 281474976710656) (hbs : beside.size ≤ 281474976710656) :
    Calls Tryz.prog 44 #[.agg (WA .u8 32 key), .agg (WA .u8 12 nonce), .string under, .string beside] w fun e w' => e = .returned (.string (markT key nonce under beside)) ∧ Below w.heap.size w w' := by
  have g0 : ArrAt ((w.alloc (.cells (WA .u8 32 key) 27)).alloc (.cells (WA .u8 12 nonce) 65)) w.heap.size .u8 27 32 key := heap_alloc2_old w _ _
  have g1 : ArrAt ((w.alloc (.cells (WA .u8 32 key) 27)).alloc (.cells (WA .u8 12 nonce) 65)) (w.heap.size + 1) .u8 65 12 nonce := heap_alloc2_new w _ _
  have hB : Below w.heap.size w ((w.alloc (.cells (WA .u8 32 key) 27)).alloc (.cells (WA .u8 12 nonce) 65)) := ((Below.refl _ w).alloc (by simp) _).alloc (by simp) _
  have p1 := padZ_size under
  have p2 := padZ_size beside
  have HL1 : Hid ((padZ beside).size + (padZ under).size ≤ 9223372036854775807) := Hid.mk (by omega)
  have HL2 : Hid ((padZ beside ++ padZ under).size + (mkS 8 (digN (beside.size : Int))).size ≤ 9223372036854775807) := Hid.mk (by rw [ByteArray.size_append, mkS_size]; omega)
  have HL3 : Hid ((padZ beside ++ padZ under ++ mkS 8 (digN (beside.size : Int))).size + (mkS 8 (digN (under.size : Int))).size ≤ 9223372036854775807) := Hid.mk (by rw [ByteArray.size_append, ByteArray.size_append, mkS_size, mkS_size]; omega)
  have HL4 : Hid ((marked under beside).size ≤ 1152921504606846976) := Hid.mk (by unfold marked; rw [ByteArray.size_append, ByteArray.size_append, ByteArray.size_append, mkS_size, mkS_size]; omega)
  have HB1 : Hid (0 ≤ (beside.size : Int) ∧ (beside.size : Int) < 18446744073709551616) := Hid.mk (by omega)
  have HB2 : Hid (0 ≤ (under.size : Int) ∧ (under.size : Int) < 18446744073709551616) := Hid.mk (by omega)
  have HO := Hid.mk (onceK_b key nonce)
  go_enter Tryz.func44, Tryz.ntmps44
  go_wp2_with (first | (refine ld_arr isArr32 g0 (by rfl) ?_) | (refine ld_arr isArr12 g1 (by rfl) ?_))
  refine (rBlock_run key nonce 0 _ hk hn (by unfold W32; omega)).mono ?_
  rintro e v2 ⟨rfl, hb2⟩
  replace hB := hB.trans (hb2.mono hB.size)
  clear hb2 g0 g1
  have gn := fun o (ho : o = Obj.cells (WA .u8 64 fun _ => 0) 97 (0, 0)) => (by rw [ho]; exact heap_alloc_new v2 _ : ArrAt (v2.alloc o) v2.heap.size .u8 97 64 (fun _ => 0))
  have hBS := hB.size
  go_wp2_with (refine st_arr isArr64 (gn _ rfl) (by rfl) (by rfl) ?_; intro v3 gb o3; refine Hid.out ?_)
  replace hB := (hB.alloc hBS _).trans (o3.below hBS)
  clear o3 gn
  have gn := fun o (ho : o = Obj.cells (WA .u8 32 fun _ => 0) 27 (0, 0)) => (by rw [ho]; exact heap_alloc_new v3 _ : ArrAt (v3.alloc o) v3.heap.size .u8 27 32 (fun _ => 0))
  have hlb := gb.lt
  have hBS3 := hB.size
  have HBA := Hid.mk (hB.alloc hBS3)
  refine Hid.mk ?_
  go_wp2_with fail
  generalize v2.heap.size = bb at *
  obtain ⟨bo, hbo⟩ : ∃ bo, bo = v3.heap.size := ⟨_, rfl⟩
  rw [← hbo] at gn hlb ⊢
  refine wp_gen (fun v => ArrAt v bb .u8 97 64 (blk (ssq key 0 nonce 3)) ∧ ArrAt v bo .u8 27 32 (fun _ => 0) ∧ Below w.heap.size w v) ⟨gb.alloc _, gn _ rfl, HBA.out _⟩ ?_
  clear gb gn hB HBA
  rintro v0 ⟨gb, go, hB⟩
  refine wp_region3 (Below w.heap.size w) v0.heap.size
    [(bo, once (WA .u8 32 (fun _ => 0)) 27 2 (WA .u8 32 (over (fun _ => 0) 0 32 (blk (ssq key 0 nonce 3))))), (bb, fixd (WA .u8 64 (blk (ssq key 0 nonce 3))) 97)]
    [kv (.slice (some ⟨bo, 0, none⟩) 32 32), kv (.slice (some ⟨bb, 0, none⟩) 32 64), .val fun _ => True]
    [.none, .none, .base 0 1]
    [some 15, some 16, some 17]
    [(10, .pointer (some ⟨bo, 0, none⟩)), (9, .pointer (some ⟨bb, 0, none⟩))]
    [[], [], [.slot 0, .slot 1, .base 0 0, .base 1 0]]
    [.base 0 1] [15, 16, 17]
    rfl (by kernel_rfl) ⟨rfl, rfl, trivial⟩ (Below.drew hB) (Nat.le_refl _) ⟨⟨go.lt, obIn go⟩, ⟨gb.lt, obIn gb⟩, trivial⟩ ⟨⟨(show (bo : Nat) ≠ bb from by omega), trivial⟩, trivial, trivial⟩ (below_G hB.size ⟨by omega, by omega, trivial⟩)
    ⟨
      -- 0
      (fun Q aq ww own hS hBg fr kn => .inl ⟨trivial, fun K hK => wp_value (exec_sl (v := .pointer (some ⟨bo, 0, none⟩)) rfl fr.1 (sl32w bo ww)) (hK _ _ ⟨Touch.refl _ _, rfl⟩)⟩),
      -- 1
      (fun Q aq ww own hS hBg fr kn => .inl ⟨trivial, fun K hK => wp_value (exec_slH (v := .pointer (some ⟨bb, 0, none⟩)) (u := .int .i64 32) rfl fr.2.1 rfl (sl64h bb ww)) (hK _ _ ⟨Touch.refl _ _, rfl⟩)⟩),
      -- 2
      (fun Q aq ww own hS hBg fr kn => .inl ⟨trivial, fun K hK => act_copy rfl kn.1 kn.2.1 (obAt kn.2.2.1) (m := 32) rfl (by omega) (r := blk (ssq key 0 nonce 3)) (fun q hq => by rw [Nat.zero_add]; exact ArrAt.cell (obAt kn.2.2.2.1) q (by omega)) (fun w2 hg ho => hK _ _ ⟨⟨touch_only ho, obIn hg⟩, trivial⟩)⟩),
      trivial⟩ ?_
  intro vs own v1 hB1 hs1 kn inj
  clear inj hs1 gb go hB
  have go : ArrAt v1 bo .u8 27 32 (onceK key nonce) := obAt kn.1
  have hB := hB1
  clear kn hB1
  simp only [putAll, Act.put, List.setIfInBounds_toArray, List.set_cons_zero, List.set_cons_succ]
  go_wp2_with fail
  refine wp_region3 (Below w.heap.size w) v1.heap.size
    [(bo, fixd (WA .u8 32 (onceK key nonce)) 27)]
    [kv (.agg (WA .u8 32 (onceK key nonce))), kv (.string beside), kv (.string (padZ beside)), kv (.string under), kv (.string (padZ under)), kv (.string (padZ beside ++ padZ under)), kv (.string beside), kv (.int .i64 (beside.size : Int)), kv (.int .u64 (beside.size : Int)), kv (.string (mkS 8 (digN (beside.size : Int)))), kv (.string (padZ beside ++ padZ under ++ mkS 8 (digN (beside.size : Int)))), kv (.string under), kv (.int .i64 (under.size : Int)), kv (.int .u64 (under.size : Int)), kv (.string (mkS 8 (digN (under.size : Int)))), kv (.string (marked under beside)), kv (.agg (WA .u8 16 (digN (markN (onceK key nonce) (txt (marked under beside)) (marked under beside).size)))), kp (WA .u8 16 fun _ => 0) 92 18 (WA .u8 16 (digN (markN (onceK key nonce) (txt (marked under beside)) (marked under beside).size))), .val fun _ => True]
    [.none, .none, .none, .none, .none, .none, .none, .none, .none, .none, .none, .none, .none, .none, .none, .none, .none, .none, .own 17 1]
    [some 18, some 19, some 20, some 21, some 22, some 23, some 24, some 25, some 26, some 27, some 28, some 29, some 30, some 31, some 32, some 33, some 34, some 11, none]
    [(10, .pointer (some ⟨bo, 0, none⟩)), (3, .string beside), (2, .string under)]
    [[.base 0 0], [], [.slot 1], [], [.slot 3], [.slot 2, .slot 4], [], [.slot 6], [.slot 7], [.slot 8], [.slot 5, .slot 9], [], [.slot 11], [.slot 12], [.slot 13], [.slot 10, .slot 14], [.slot 0, .slot 15], [], [.slot 17, .cont 17 0, .slot 16]]
    [.slot 17, .cont 17 1] [18, 19, 20, 21, 22, 23, 24, 25, 26, 27, 28, 29, 30, 31, 32, 33, 34, 11]
    rfl (by kernel_rfl) ⟨rfl, rfl, rfl, trivial⟩ (Below.drew hB) (Nat.le_refl _) ⟨⟨go.lt, obIn go⟩, trivial⟩ ⟨trivial, trivial⟩ (below_G hB.size ⟨by omega, trivial⟩)
    ⟨
      -- 0
      (fun Q aq ww own hS hBg fr kn => .inl ⟨trivial, fun K hK => wp_value (look_arr rfl isArr32 (obAt kn.1) fr.1) (hK _ _ ⟨Touch.refl _ _, rfl⟩)⟩),
      -- 1
      (fun Q aq ww own hS hBg fr kn => .inl ⟨trivial, fun K hK => wp_value (exec_move rfl fr.2.1) (hK _ _ ⟨Touch.refl _ _, rfl⟩)⟩),
      -- 2
      (fun Q aq ww own hS hBg fr kn => .inl ⟨trivial, fun K hK => stepc enterWhole rfl (args1 kn.1) (rwhole_run beside ww (by omega)) (fun w' hb => hK _ _ ⟨touch_below hb, rfl⟩)⟩),
      -- 3
      (fun Q aq ww own hS hBg fr kn => .inl ⟨trivial, fun K hK => wp_value (exec_move rfl fr.2.2.1) (hK _ _ ⟨Touch.refl _ _, rfl⟩)⟩),
      -- 4
      (fun Q aq ww own hS hBg fr kn => .inl ⟨trivial, fun K hK => stepc enterWhole rfl (args1 kn.1) (rwhole_run under ww (by omega)) (fun w' hb => hK _ _ ⟨touch_below hb, rfl⟩)⟩),
      -- 5
      (fun Q aq ww own hS hBg fr kn => .inl ⟨trivial, fun K hK => wp_value (exec_catS rfl kn.1 kn.2.1 HL1.out) (hK _ _ ⟨Touch.refl _ _, rfl⟩)⟩),
      -- 6
      (fun Q aq ww own hS hBg fr kn => .inl ⟨trivial, fun K hK => wp_value (exec_move rfl fr.2.1) (hK _ _ ⟨Touch.refl _ _, rfl⟩)⟩),
      -- 7
      (fun Q aq ww own hS hBg fr kn => .inl ⟨trivial, fun K hK => wp_value (exec_lenS rfl kn.1) (hK _ _ ⟨Touch.refl _ _, rfl⟩)⟩),
      -- 8
      (fun Q aq ww own hS hBg fr kn => .inl ⟨trivial, fun K hK => wp_value (exec_conv rfl kn.1 (conv_iu HB1.out _)) (hK _ _ ⟨Touch.refl _ _, rfl⟩)⟩),
      -- 9
      (fun Q aq ww own hS hBg fr kn => .inl ⟨trivial, fun K hK => stepc enterEight rfl (args1 kn.1) (reight_run _ ww HB1.out) (fun w' hb => hK _ _ ⟨touch_below hb, rfl⟩)⟩),
      -- 10
      (fun Q aq ww own hS hBg fr kn => .inl ⟨trivial, fun K hK => wp_value (exec_catS rfl kn.1 kn.2.1 HL2.out) (hK _ _ ⟨Touch.refl _ _, rfl⟩)⟩),
      -- 11
      (fun Q aq ww own hS hBg fr kn => .inl ⟨trivial, fun K hK => wp_value (exec_move rfl fr.2.2.1) (hK _ _ ⟨Touch.refl _ _, rfl⟩)⟩),
      -- 12
      (fun Q aq ww own hS hBg fr kn => .inl ⟨trivial, fun K hK => wp_value (exec_lenS rfl kn.1) (hK _ _ ⟨Touch.refl _ _, rfl⟩)⟩),
      -- 13
      (fun Q aq ww own hS hBg fr kn => .inl ⟨trivial, fun K hK => wp_value (exec_conv rfl kn.1 (conv_iu HB2.out _)) (hK _ _ ⟨Touch.refl _ _, rfl⟩)⟩),
      -- 14
      (fun Q aq ww own hS hBg fr kn => .inl ⟨trivial, fun K hK => stepc enterEight rfl (args1 kn.1) (reight_run _ ww HB2.out) (fun w' hb => hK _ _ ⟨touch_below hb, rfl⟩)⟩),
      -- 15
      (fun Q aq ww own hS hBg fr kn => .inl ⟨trivial, fun K hK => wp_value (exec_catS rfl kn.1 kn.2.1 HL3.out) (hK _ _ ⟨Touch.refl _ _, rfl⟩)⟩),
      -- 16
      (fun Q aq ww own hS hBg fr kn => .inl ⟨trivial, fun K hK => stepc enterRTag rfl (args2 kn.1 kn.2.1) (rTag_big (onceK key nonce) (marked under beside) ww HO.out HL4.out) (fun w' hb => hK _ _ ⟨touch_below hb, rfl⟩)⟩),
      -- 17
      (fun Q aq ww own hS hBg fr kn => .inl ⟨trivial, fun K hK => act_alloc zero16 rfl (fun w' hb hg => hK _ _ ⟨touch_below hb, _, Nat.le_refl _, rfl, obIn hg⟩)⟩),
      -- 18
      (fun Q aq ww own hS hBg fr kn => .inl ⟨trivial, fun K hK => act_arr rfl isArr16 kn.1.1 kn.2.2.1 (obAt kn.2.1) (fun w2 hg ho => hK _ _ ⟨touch_only ho, obIn hg, trivial⟩)⟩),
      trivial⟩ ?_
  intro vs4 own v4 hB4 hs4 kn inj
  clear inj hs4 go hB
  obtain ⟨k1, k2, -⟩ := kn
  obtain ⟨e11, hb11, _⟩ := k1
  change vs4 11 = _ at e11
  have gM : ArrAt v4 (own 17) .u8 92 16 (digN (markN (onceK key nonce) (txt (marked under beside)) (marked under beside).size)) := obAt k2
  clear k2
  simp only [putAll, Act.put, List.setIfInBounds_toArray, List.set_cons_zero, List.set_cons_succ, e11]
  generalize own 17 = b11 at *
  have hcv : (convert 67 9 (.slice (some ⟨b11, 0, none⟩) 16 16)).run Tryz.prog v4 = .ok (.string (markT key nonce under beside)) v4 := str_back 16 b11 16 v4 16 _ gM.row (fun j _ => digN_b _ j) rfl
  go_wp2_with fail
  go_ret
  exact ⟨rfl, hB4⟩
end Go.Proofs.YtbkbcfimpaolmaaGreat
/-
  Own text. What lowestFirst and filling of package aead answer.
-/
namespace Go.Proofs.YtbkbcfimpaolmaaGreat
open Go.RowKit Go.Proofs
set_option maxRecDepth 100000
theorem shr_at (n : Int) (i : Nat) (hi : i < 8) (w : World) : (binOp .shr 31 (.int .u64 n) (.int .i64 (8 * (i : Int)))).run Tryz.prog w = .ok (.int .u64 (n / 256 ^ i)) w := by
  match i, hi with
  | 0, _ => simp [go_sem]
  | 1, _ => simp [go_sem]
  | 2, _ => simp [go_sem]
  | 3, _ => simp [go_sem]
  | 4, _ => simp [go_sem]
  | 5, _ => simp [go_sem]
  | 6, _ => simp [go_sem]
  | 7, _ => simp [go_sem]
theorem exec_shrA {a : Act} {o : Oper} {w : World} {x y : Operand} (ho : o.op = .binOp .shr 31 x y 3) {n : Int} {i : Nat} (hx : a.eval x = .int .u64 n) (hy : a.eval y = .int .i64 (8 * (i : Int))) (hi : i < 8) : (execOp a.eval o).run Tryz.prog w = .ok (.value (.int .u64 (n / 256 ^ i))) w := exec_bin2 ho hx hy rfl (shr_at n i hi w)
set_option maxHeartbeats 4000000 in
theorem lowest_run (n : Int) (w : World) :
    Calls Tryz.prog 58 #[.int .u64 n] w fun e w' => e = .returned (.agg (WA .u8 8 (digN n))) ∧ Below w.heap.size w w' := by
  have g0 : ArrAt ((w.alloc (.cells (WA .u8 8 fun _ => 0) 95)).alloc (.cells (WA .u8 8 fun _ => 0) 95)) w.heap.size .u8 95 8 (fun _ => 0) := heap_alloc2_old w _ _
  have g1 : ArrAt ((w.alloc (.cells (WA .u8 8 fun _ => 0) 95)).alloc (.cells (WA .u8 8 fun _ => 0) 95)) (w.heap.size + 1) .u8 95 8 (fun _ => 0) := heap_alloc2_new w _ _
  have hB : Below w.heap.size w ((w.alloc (.cells (WA .u8 8 fun _ => 0) 95)).alloc (.cells (WA .u8 8 fun _ => 0) 95)) := ((Below.refl _ w).alloc (by simp) _).alloc (by simp) _
  go_enter Tryz.func58, Tryz.ntmps58
  go_wp2_with fail
  go_loopg [5] 8 (fun gm iv v => ∃ i : Nat, Hid (gm + i = 8) ∧ iv = .int .i64 (i : Int) ∧ ArrAt v w.heap.size .u8 95 8 (fun _ => 0) ∧ ArrAt v (w.heap.size + 1) .u8 95 8 (fun j => if j < i then digN n j else 0) ∧ Below w.heap.size w v)
  case atStart => exact ⟨0, Hid.mk rfl, rfl, g0, g1.congr (fun j _ => by rw [if_neg (by omega)]), hB⟩
  case round =>
    clear g0 g1 hB
    obtain ⟨i, HI, rfl, g0, g1, hB⟩ := hrel
    have hi8 : i ≤ 8 := by have := HI.out; omega
    by_cases hil : i < 8
    · have c0 := g1.cell i hil
      have f0 := g1.free i
      have g2 := Hid.mk ((g1.set i (n / 256 ^ i % 256) hil).congr (s' := fun j => if j < i + 1 then digN n j else 0) (fun j _ => by
        unfold upd
        by_cases e : j = i
        · subst e; rw [if_pos rfl, if_pos (by omega)]; rfl
        · rw [if_neg e]
          show (if j < i then digN n j else 0) = _
          by_cases h : j < i
          · rw [if_pos h, if_pos (by omega)]
          · rw [if_neg h, if_neg (by omega)]))
      have g3 := Hid.mk (g0.only (only_set (w := wr) (g := w.heap.size + 1) (i := i) (v := .int .u8 (n / 256 ^ i % 256))) (by omega))
      go_wp2_with (refine wl_value rfl (exec_shrA rfl (by rfl) (by rfl) hil) ?_)
      generalize n / 256 ^ i = q at *
      go_wp2_with fail
      go_roundg (8 - (i + 1))
      case rel => exact ⟨i + 1, Hid.mk (by omega), by go_num, g3.out, g2.out, Below.setCell (p := ⟨w.heap.size + 1, i, none⟩) hB (by simp) _⟩
      case measure => have := HI.out; omega
    · have hi2 : i = 8 := by omega
      subst hi2
      replace g1 := g1.congr (s' := digN n) (fun j hj => by rw [if_pos hj])
      go_wp2_with (first | (refine ld_arr isArr8 g1 (by rfl) ?_) | (refine st_arr isArr8 g0 (by rfl) (by rfl) ?_; intro v4 g4 o4; refine Hid.out ?_))
      refine Hid.mk ?_
      go_wp2_with fail
      exact bodyPost_ret (res_arr Tryz.results58 isArr8 g4 (by rfl)) rfl ⟨rfl, hB.trans (o4.below (Nat.le_refl _))⟩
/-- What fills a text up to a multiple of 16. -/
def fillZ (s : ByteArray) : ByteArray := mkS ((16 - s.size % 16) % 16) (fun _ => 0)
theorem padZ_eq (s : ByteArray) : padZ s = s ++ fillZ s := rfl
theorem zeros_cut : ∀ n, n < 16 → (⟨#[0, 0, 0, 0, 0, 0, 0, 0, 0, 0, 0, 0, 0, 0, 0, 0]⟩ : ByteArray).extract n 16 = mkS (16 - n) (fun _ => 0) := by decide +kernel
set_option maxHeartbeats 4000000 in
theorem filling_run (s : ByteArray) (w : World) (hs : s.size ≤ 1152921504606846976) :
    Calls Tryz.prog 74 #[.string s] w fun e w' => e = .returned (.string (fillZ s)) ∧ Below w.heap.size w w' := by
  obtain ⟨k, hk⟩ : ∃ k, s.size % 16 = k := ⟨_, rfl⟩
  have hk16 : k < 16 := by omega
  have h1 : (s.size : Int).tmod 16 = (k : Int) := by rw [Int.tmod_eq_emod_of_nonneg (by omega)]; omega
  have h1e : (s.size : Int) % 16 = (k : Int) := by omega
  by_cases hz : k = 0
  · have HE : Hid (fillZ s = ByteArray.empty) := Hid.mk (by unfold fillZ; rw [hk, hz]; rfl)
    subst hz
    go_enter Tryz.func74, Tryz.ntmps74
    go_wp2_with fail
    rw [HE.out]
    go_ret
    exact ⟨rfl, Below.refl _ _⟩
  · have HE : Hid (fillZ s = mkS (16 - k) (fun _ => 0)) := Hid.mk (by unfold fillZ; rw [hk, Nat.mod_eq_of_lt (by omega)])
    have hkI : ¬ (k : Int) = 0 := by omega
    go_enter Tryz.func74, Tryz.ntmps74
    go_wp2_with (refine wl_value rfl (exec_slL (v := .string ⟨#[0, 0, 0, 0, 0, 0, 0, 0, 0, 0, 0, 0, 0, 0, 0, 0]⟩) (u := .int .i64 (k : Int)) rfl (by rfl) (by rfl) (strL _ k _ (by show k ≤ 16; omega))) ?_)
    rw [HE.out]
    go_ret
    exact ⟨congrArg (fun x => Ending.returned (.string x)) (zeros_cut k hk16), Below.refl _ _⟩
end Go.Proofs.YtbkbcfimpaolmaaGreat
/-
  Own text. What keyOfMark of package aead answers; parts of arrays.
-/
namespace Go.Proofs.YtbkbcfimpaolmaaGreat
open Go.RowKit Go.Proofs
set_option maxRecDepth 100000
theorem arr_range {w : World} {b n : Nat} {t : TypeId} {s : Nat → Int} (h : ArrAt w b .u8 t n s) (f m : Nat) (hf : f + m ≤ n) : w.rangeAt b f (nums .u8 m fun j => s (f + j)) := fun j v hv => by
  obtain ⟨hj, rfl⟩ := nums_get hv
  exact h.cell (f + j) (by omega)
theorem exec_part {a : Act} {o : Oper} {w : World} {x : Operand} {ty t : TypeId} {b n m : Nat} {s : Nat → Int} (f : Nat) (ho : o.op = .load ty x) (hA : IsArr ty m) (hg : ArrAt w b .u8 t n s) (hf : f + m ≤ n) (hx : a.eval x = .pointer (some ⟨b, f, none⟩)) : (execOp a.eval o).run Tryz.prog w = .ok (.value (.agg (WA .u8 m fun j => s (f + j)))) w :=
  exec_ldmid ho hA hx (arr_range hg f m hf)
theorem exec_part0 {a : Act} {o : Oper} {w : World} {x : Operand} {ty t : TypeId} {b n m : Nat} {s : Nat → Int} (ho : o.op = .load ty x) (hA : IsArr ty m) (hg : ArrAt w b .u8 t n s) (hf : m ≤ n) (hx : a.eval x = .pointer (some ⟨b, 0, none⟩)) : (execOp a.eval o).run Tryz.prog w = .ok (.value (.agg (WA .u8 m s))) w :=
  exec_ldmid ho hA hx (fun j v hv => by
    obtain ⟨hj, rfl⟩ := nums_get hv
    rw [Nat.zero_add]
    exact hg.cell j (by omega))
theorem exec_toarr {a : Act} {o : Oper} {w : World} {x : Operand} {t : TypeId} (ho : o.op = .sliceToArrayPointer t x) {v r : Value} (hx : a.eval x = v) (hr : (Instr.arrayAt t v).run Tryz.prog w = .ok r w) : (execOp a.eval o).run Tryz.prog w = .ok (.value r) w := by
  unfold execOp
  simp [ho, hx, hr]
theorem toarr32 (b f cap : Nat) (w : World) : (Instr.arrayAt 27 (.slice (some ⟨b, f, none⟩) 32 cap)).run Tryz.prog w = .ok (.pointer (some ⟨b, f, none⟩)) w := by simp [go_sem, Instr.arrayAt]
set_option maxHeartbeats 4000000 in
theorem keyOfMark_run (key nonce : Nat → Int) (w : World) (hk : Byts 32 key) (hn : Byts 12 nonce) :
    Calls Tryz.prog 76 #[.agg (WA .u8 32 key), .agg (WA .u8 12 nonce)] w fun e w' => e = .returned (.agg (WA .u8 32 (onceK key nonce))) ∧ Below w.heap.size w w' := by
  have g0 : ArrAt (((w.alloc (.cells (WA .u8 32 key) 27)).alloc (.cells (WA .u8 12 nonce) 65)).alloc (.cells (WA .u8 32 fun _ => 0) 27)) w.heap.size .u8 27 32 key := heap_a31 w _ _ _
  have g1 : ArrAt (((w.alloc (.cells (WA .u8 32 key) 27)).alloc (.cells (WA .u8 12 nonce) 65)).alloc (.cells (WA .u8 32 fun _ => 0) 27)) (w.heap.size + 1) .u8 65 12 nonce := heap_a32 w _ _ _
  have g2 : ArrAt (((w.alloc (.cells (WA .u8 32 key) 27)).alloc (.cells (WA .u8 12 nonce) 65)).alloc (.cells (WA .u8 32 fun _ => 0) 27)) (w.heap.size + 1 + 1) .u8 27 32 (fun _ => 0) := heap_a3 w _ _ _
  have hB : Below w.heap.size w (((w.alloc (.cells (WA .u8 32 key) 27)).alloc (.cells (WA .u8 12 nonce) 65)).alloc (.cells (WA .u8 32 fun _ => 0) 27)) := (((Below.refl _ w).alloc (by simp) _).alloc (by simp) _).alloc (by simp; omega) _
  go_enter Tryz.func76, Tryz.ntmps76
  go_wp2_with (first | (refine ld_arr isArr32 g0 (by rfl) ?_) | (refine ld_arr isArr12 g1 (by rfl) ?_))
  refine (Block_run key nonce 0 _ hk hn (by unfold W32; omega)).mono ?_
  rintro e v2 ⟨rfl, hb2⟩
  replace hB := hB.trans (hb2.mono hB.size)
  have hz : w.heap.size + 1 + 1 < v2.heap.size := (g2.kept hb2).lt
  replace g2 := (g2.kept hb2)
  clear hb2 g0 g1
  have gn := fun o (ho : o = Obj.cells (WA .u8 64 fun _ => 0) 97 (0, 0)) => (by rw [ho]; exact heap_alloc_new v2 _ : ArrAt (v2.alloc o) v2.heap.size .u8 97 64 (fun _ => 0))
  have hBS := hB.size
  go_wp2_with (refine st_arr isArr64 (gn _ rfl) (by rfl) (by rfl) ?_; intro v3 gb o3; refine Hid.out ?_)
  replace hB := (hB.alloc hBS _).trans (o3.below hBS)
  replace g2 := (g2.alloc _).only o3 (by omega)
  clear o3 gn
  refine Hid.mk ?_
  go_wp2_with (first | (refine wl_value rfl (exec_toarr rfl (by rfl) (toarr32 _ 0 64 _)) ?_) | (refine wl_value rfl (exec_part0 rfl isArr32 gb (by omega) (by rfl)) ?_) | (refine st_arr isArr32 g2 (by rfl) (by rfl) ?_; intro v4 g4 o4; refine Hid.out ?_))
  refine Hid.mk ?_
  go_wp2_with fail
  have hE : WA .u8 32 (blk (ssq key 0 nonce 3)) = WA .u8 32 (onceK key nonce) := WA_congr (fun j hj => by
    unfold onceK over
    rw [if_pos (by omega), Nat.sub_zero])
  exact bodyPost_ret (res_arr Tryz.results76 isArr32 g4 (by rfl)) rfl ⟨by rw [hE], hB.trans (o4.below (by omega))⟩
end Go.Proofs.YtbkbcfimpaolmaaGreat
/-
  Own text. Slices of texts that grow; steps over them.
-/
namespace Go.Proofs.YtbkbcfimpaolmaaGreat
open Go.RowKit Go.Proofs
set_option maxRecDepth 100000

end Go.Proofs.YtbkbcfimpaolmaaGreat
/-
  Own text. What markOf of package aead answers.
-/
namespace Go.Proofs.YtbkbcfimpaolmaaGreat
open Go.RowKit Go.Proofs
set_option maxRecDepth 100000
/-- The pieces that are marked. -/
def pc6 (ps : Nat → ByteArray) (j : Nat) : ByteArray := if j < 4 then (if j % 2 = 0 then ps (j / 2) else fillZ (ps (j / 2))) else mkS 8 (digN ((ps (j - 4)).size : Int))
theorem join6 (under beside : ByteArray) : joinB (pc6 (two2 beside under)) 6 = marked under beside := by
  simp [joinB, pc6, two2, marked, padZ_eq, ByteArray.append_assoc]
theorem pc6_even (ps : Nat → ByteArray) (i : Nat) (hi : i < 2) : ∀ j, j < 2 → two2 (ps i) (fillZ (ps i)) j = pc6 ps (2 * i + j) := fun j hj => by
  unfold pc6
  rw [if_pos (by omega)]
  match j, hj with
  | 0, _ => rw [if_pos (by omega), show (2 * i + 0) / 2 = i by omega]; rfl
  | 1, _ => rw [if_neg (by omega), show (2 * i + 1) / 2 = i by omega]; rfl
theorem pc6_len (ps : Nat → ByteArray) (i : Nat) : ∀ j, j < 1 → one1 (mkS 8 (digN ((ps i).size : Int))) j = pc6 ps (4 + i + j) := fun j hj => by
  obtain rfl : j = 0 := by omega
  unfold pc6
  rw [if_neg (by omega), show 4 + i + 0 - 4 = i by omega]
  rfl
set_option maxHeartbeats 8000000 in
theorem markOf_run (key nonce : Nat → Int) (pv : Value) (ps : Nat → ByteArray) (w : World) (hk : Byts 32 key) (hn : Byts 12 nonce) (hv : Strs w pv 2 ps) (hps : ∀ j, j < 2 → (ps j).size ≤ 1152921504606846976) :
    Calls Tryz.prog 56 #[.agg (WA .u8 32 key), .agg (WA .u8 12 nonce), pv] w fun e w' => e = .returned (.agg (WA .u8 16 (digN (markN (onceK key nonce) (txt (joinB (pc6 ps) 6)) (joinB (pc6 ps) 6).size)))) ∧ Below w.heap.size w w' := by
  have g0 : ArrAt (((w.alloc (.cells (WA .u8 32 key) 27)).alloc (.cells (WA .u8 12 nonce) 65)).alloc (.cells (WA .u8 16 fun _ => 0) 92)) w.heap.size .u8 27 32 key := heap_a31 w _ _ _
  have g1 : ArrAt (((w.alloc (.cells (WA .u8 32 key) 27)).alloc (.cells (WA .u8 12 nonce) 65)).alloc (.cells (WA .u8 16 fun _ => 0) 92)) (w.heap.size + 1) .u8 65 12 nonce := heap_a32 w _ _ _
  have g2 : ArrAt (((w.alloc (.cells (WA .u8 32 key) 27)).alloc (.cells (WA .u8 12 nonce) 65)).alloc (.cells (WA .u8 16 fun _ => 0) 92)) (w.heap.size + 1 + 1) .u8 92 16 (fun _ => 0) := heap_a3 w _ _ _
  have hB : Below w.heap.size w (((w.alloc (.cells (WA .u8 32 key) 27)).alloc (.cells (WA .u8 12 nonce) 65)).alloc (.cells (WA .u8 16 fun _ => 0) 92)) := (((Below.refl _ w).alloc (by simp) _).alloc (by simp) _).alloc (by simp; omega) _
  have hv0 := hv.below hB
  obtain ⟨pa, pcp, rfl, _⟩ := hv
  go_enter Tryz.func56, Tryz.ntmps56
  go_wp2_with fail
  obtain ⟨u, hu⟩ : ∃ u, u = (((w.alloc (.cells (WA .u8 32 key) 27)).alloc (.cells (WA .u8 12 nonce) 65)).alloc (.cells (WA .u8 16 fun _ => 0) 92)) := ⟨_, rfl⟩
  rw [← hu] at g0 g1 g2 hB hv0
  go_loopg [7, 15] 2 (fun gm sv iv v => ∃ i : Nat, Hid (gm + i = 2) ∧ iv = .int .i64 (i : Int) ∧ v.ownsRow u.heap.size 9 1 sv (2 * i) (strW (2 * i) (pc6 ps)) ∧ Below u.heap.size u v)
  case atStart => exact ⟨0, Hid.mk rfl, rfl, World.ownsRow_nil _ _ _ _, by rw [hu]; exact Below.refl _ _⟩
  case round =>
    clear hu
    obtain ⟨i, HI, rfl, hO, hb⟩ := hrel
    have hin : i ≤ 2 := by have := HI.out; omega
    by_cases hil : i < 2
    · obtain ⟨a', c', e, hp⟩ := hv0.below hb
      simp only [Value.slice.injEq] at e
      obtain ⟨rfl, _, rfl⟩ := e
      obtain ⟨p, rfl, hc⟩ := hp (by omega)
      have hc1 := hc i hil
      clear hc hp
      go_wp2_with fail
      refine (filling_run (ps i) _ (hps i hil)).mono ?_
      rintro e v1 ⟨rfl, hb1⟩
      replace hO := own_kept hO hb1
      replace hb := hb.trans (hb1.mono hb.size)
      clear hb1 hc1
      go_wp2_with (refine wl_bs2 (by rfl) (by rfl) ?_; intro v2 s2 hb2 hz2; refine Hid.out ?_)
      replace hO := own_kept hO hb2
      replace hb := hb.trans (hb2.mono hb.size)
      clear hb2 hz2
      have HBS := Hid.mk hb.size
      refine Hid.mk ?_
      go_wp2_with (refine ap_strs (by rfl) (by rfl) hO s2 (by omega) HBS.out ?_; intro v' v3 hO3 hb3; refine Hid.out ?_)
      rw [strW_app (pc6_even ps i hil)] at hO3
      replace hb := hb.trans hb3
      clear hO hb3 s2
      refine Hid.mk ?_
      go_wp2_with fail
      go_roundg (2 - (i + 1))
      case rel => exact ⟨i + 1, Hid.mk (by omega), by go_num, hO3, hb⟩
      case measure => have := HI.out; omega
    · have hi2 : i = 2 := by omega
      subst hi2
      go_wp2_with fail
      go_loopg [7, 28] 2 (fun gm sv iv v => ∃ i : Nat, Hid (gm + i = 2) ∧ iv = .int .i64 (i : Int) ∧ v.ownsRow u.heap.size 9 1 sv (4 + i) (strW (4 + i) (pc6 ps)) ∧ Below u.heap.size u v)
      case atStart => exact ⟨0, Hid.mk rfl, rfl, hO, hb⟩
      case round =>
        clear hO hb HI hil hin
        obtain ⟨i, HI, rfl, hO, hb⟩ := hrel
        have hin : i ≤ 2 := by have := HI.out; omega
        by_cases hil : i < 2
        · obtain ⟨a', c', e, hp⟩ := hv0.below hb
          simp only [Value.slice.injEq] at e
          obtain ⟨rfl, _, rfl⟩ := e
          obtain ⟨p, rfl, hc⟩ := hp (by omega)
          have hc1 := hc i hil
          have hsz : 0 ≤ ((ps i).size : Int) ∧ ((ps i).size : Int) < 18446744073709551616 := by have := hps i hil; omega
          clear hc hp
          go_wp2_with (refine wl_value rfl (exec_conv rfl (by rfl) (conv_iu hsz _)) ?_)
          refine (lowest_run _ _).mono ?_
          rintro e v1 ⟨rfl, hb1⟩
          replace hO := own_kept hO hb1
          replace hb := hb.trans (hb1.mono hb.size)
          clear hb1 hc1
          have gn := fun o (ho : o = Obj.cells (WA .u8 8 fun _ => 0) 95 (0, 0)) => (by rw [ho]; exact heap_alloc_new v1 _ : ArrAt (v1.alloc o) v1.heap.size .u8 95 8 (fun _ => 0))
          have HBS := Hid.mk hb.size
          go_wp2_with (refine st_arr isArr8 (gn _ rfl) (by rfl) (by rfl) ?_; intro v2 gb o2; refine Hid.out ?_)
          have hb2 : Below v1.heap.size v1 v2 := ((Below.refl _ v1).alloc (Nat.le_refl _) _).trans (o2.below (Nat.le_refl _))
          replace hO := own_kept hO hb2
          replace hb := hb.trans (hb2.mono hb.size)
          clear hb2 o2 gn HBS
          have hcv := str_back 8 v1.heap.size 8 v2 8 (digN ((ps i).size : Int)) gb.row (fun j _ => digN_b _ j) rfl
          refine Hid.mk ?_
          go_wp2_with (refine wl_bs1 (by rfl) ?_; intro v3 s3 hb3 hz3; refine Hid.out ?_)
          replace hO := own_kept hO hb3
          replace hb := hb.trans (hb3.mono hb.size)
          clear hb3 hz3 hcv gb
          have HBS := Hid.mk hb.size
          refine Hid.mk ?_
          go_wp2_with (refine ap_strs (by rfl) (by rfl) hO s3 (by omega) HBS.out ?_; intro v' v4 hO4 hb4; refine Hid.out ?_)
          rw [strW_app (pc6_len ps i)] at hO4
          replace hb := hb.trans hb4
          clear hO hb4 s3
          refine Hid.mk ?_
          go_wp2_with fail
          go_roundg (2 - (i + 1))
          case rel => exact ⟨i + 1, Hid.mk (by omega), by go_num, hO4, hb⟩
          case measure => have := HI.out; omega
        · have hi2 : i = 2 := by omega
          subst hi2
          have gk := g0.kept hb
          have gq := g1.kept hb
          have gr := g2.kept hb
          have hSt := own_Strs hO (by omega)
          replace hB := hB.trans (hb.mono hB.size)
          clear hb hO g0 g1 g2
          go_wp2_with (first | (refine ld_arr isArr32 gk (by rfl) ?_) | (refine ld_arr isArr12 gq (by rfl) ?_))
          refine (keyOfMark_run key nonce _ hk hn).mono ?_
          rintro e v5 ⟨rfl, hb5⟩
          replace gr := gr.kept hb5
          replace hB := hB.trans (hb5.mono hB.size)
          replace hSt := hSt.below hb5
          clear hb5 gk gq
          go_wp2_with fail
          refine (Tag_run (onceK key nonce) _ 6 (pc6 ps) _ (onceK_b key nonce) hSt (by decide)).mono ?_
          rintro e v6 ⟨rfl, hb6⟩
          replace gr := gr.kept hb6
          replace hB := hB.trans (hb6.mono hB.size)
          clear hb6 hSt
          go_wp2_with (refine st_arr isArr16 gr (by rfl) (by rfl) ?_; intro v7 g7 o7; refine Hid.out ?_)
          refine Hid.mk ?_
          go_wp2_with fail
          exact bodyPost_ret (res_arr Tryz.results56 isArr16 g7 (by rfl)) rfl ⟨rfl, hB.trans (o7.below (by omega))⟩
end Go.Proofs.YtbkbcfimpaolmaaGreat
/-
  Own text. The document's answer for aead: Seal.
-/
namespace Go.Proofs.YtbkbcfimpaolmaaGreat
open Go.RowKit Go.Proofs
set_option maxRecDepth 100000
/-- A text under the stream. -/
def underT (key nonce : Nat → Int) (text : ByteArray) : ByteArray := mkS text.size (strm key nonce 1 text)
/-- A box. -/
def boxT (key nonce : Nat → Int) (text beside : ByteArray) : ByteArray := underT key nonce text ++ markT key nonce (underT key nonce text) beside
theorem underT_size (key nonce : Nat → Int) (text : ByteArray) : (underT key nonce text).size = text.size := mkS_size _ _
theorem markT_size (key nonce : Nat → Int) (under beside : ByteArray) : (markT key nonce under beside).size = 16 := mkS_size _ _
theorem boxT_size (key nonce : Nat → Int) (text beside : ByteArray) : (boxT key nonce text beside).size = text.size + 16 := by
  unfold boxT
  rw [ByteArray.size_append, underT_size, markT_size]
set_option maxHeartbeats 4000000 in
theorem rSeal_run (key nonce : Nat → Int) (text beside : ByteArray) (w : World) (hk : Byts 32 key) (hn : Byts 12 nonce) (ht : text.size ≤ 140737488355328) (hbs : beside.size ≤ 281474976710656) :
    Calls Tryz.prog 21 #[.agg (WA .u8 32 key), .agg (WA .u8 12 nonce), .string text, .string beside] w fun e w' => e = .returned (.string (boxT key nonce text beside)) ∧ Below w.heap.size w w' := by
  have g0 : ArrAt ((w.alloc (.cells (WA .u8 32 key) 27)).alloc (.cells (WA .u8 12 nonce) 65)) w.heap.size .u8 27 32 key := heap_alloc2_old w _ _
  have g1 : ArrAt ((w.alloc (.cells (WA .u8 32 key) 27)).alloc (.cells (WA .u8 12 nonce) 65)) (w.heap.size + 1) .u8 65 12 nonce := heap_alloc2_new w _ _
  have hB : Below w.heap.size w ((w.alloc (.cells (WA .u8 32 key) 27)).alloc (.cells (WA .u8 12 nonce) 65)) := ((Below.refl _ w).alloc (by simp) _).alloc (by simp) _
  have hS := fun w => rStream_run key nonce 1 text w hk hn (by unfold W32; omega) ht
  have hM := fun w => rmark_run key nonce (underT key nonce text) beside w hk hn (by rw [underT_size]; omega) hbs
  have HE : Hid (underT key nonce text ++ markT key nonce (underT key nonce text) beside = boxT key nonce text beside) := Hid.mk rfl
  have hL1 : (underT key nonce text).size + (markT key nonce (underT key nonce text) beside).size ≤ 9223372036854775807 := by rw [underT_size, markT_size]; omega
  change ∀ w, Calls _ _ _ w fun e w' => e = .returned (.string (underT key nonce text)) ∧ Below w.heap.size w w' at hS
  generalize markT key nonce (underT key nonce text) beside = m at *
  generalize underT key nonce text = u at *
  clear ht
  go_enter Tryz.func21, Tryz.ntmps21
  go_wp2_with (first | (refine ld_arr isArr32 g0 (by rfl) ?_) | (refine ld_arr isArr12 g1 (by rfl) ?_))
  refine (hS _).mono ?_
  rintro e v1 ⟨rfl, hb⟩
  replace g0 := g0.kept hb
  replace g1 := g1.kept hb
  replace hB := hB.trans (hb.mono hB.size)
  clear hb
  go_wp2_with (first | (refine ld_arr isArr32 g0 (by rfl) ?_) | (refine ld_arr isArr12 g1 (by rfl) ?_))
  refine (hM _).mono ?_
  rintro e v2 ⟨rfl, hb⟩
  replace hB := hB.trans (hb.mono hB.size)
  clear hb
  go_wp2_with (refine wl_value rfl (exec_catS rfl (by rfl) (by rfl) hL1) ?_)
  rw [HE.out]
  go_ret
  exact ⟨rfl, hB⟩
end Go.Proofs.YtbkbcfimpaolmaaGreat
/-
  Own text. The document's answer for aead: Open.
-/
namespace Go.Proofs.YtbkbcfimpaolmaaGreat
open Go.RowKit Go.Proofs
set_option maxRecDepth 100000
theorem enterRMark (args : Array Value) (w : World) : (callFunc 44 args).run Tryz.prog w = .ok (.enter 44 args) w := by kernel_rfl
theorem enterRStream (args : Array Value) (w : World) : (callFunc 43 args).run Tryz.prog w = .ok (.enter 43 args) w := by kernel_rfl
theorem exec_lssT0 {a : Act} {o : Oper} {w : World} {x y : Operand} (ho : o.op = .binOp .lss 3 x y 3) {m n : Int} (hx : a.eval x = .int .i64 m) (hy : a.eval y = .int .i64 n) (h : m < n) : (execOp a.eval o).run Tryz.prog w = .ok (.value (.bool true)) w := exec_bin ho rfl hx hy (by simp [go_sem, h])
theorem exec_lssF0 {a : Act} {o : Oper} {w : World} {x y : Operand} (ho : o.op = .binOp .lss 3 x y 3) {m n : Int} (hx : a.eval x = .int .i64 m) (hy : a.eval y = .int .i64 n) (h : n ≤ m) : (execOp a.eval o).run Tryz.prog w = .ok (.value (.bool false)) w := exec_bin ho rfl hx hy (by simp [go_sem]; omega)
/-- What opening answers: the text and 0, or nothing and 13. -/
def openT (key nonce : Nat → Int) (box beside : ByteArray) : ByteArray × Int :=
  if 16 ≤ box.size ∧ box.extract (box.size - 16) box.size = markT key nonce (box.extract 0 (box.size - 16)) beside then (underT key nonce (box.extract 0 (box.size - 16)), 0) else (ByteArray.empty, 13)
set_option maxHeartbeats 8000000 in
theorem rOpen_run (key nonce : Nat → Int) (box beside : ByteArray) (w : World) (hk : Byts 32 key) (hn : Byts 12 nonce) (ht : box.size ≤ 140737488355328) (hbs : beside.size ≤ 281474976710656) :
    Calls Tryz.prog 49 #[.agg (WA .u8 32 key), .agg (WA .u8 12 nonce), .string box, .string beside] w fun e w' => e = .returned (.tuple #[.string (openT key nonce box beside).1, .int .i64 (openT key nonce box beside).2]) ∧ Below w.heap.size w w' := by
  have g0 : ArrAt ((w.alloc (.cells (WA .u8 32 key) 27)).alloc (.cells (WA .u8 12 nonce) 65)) w.heap.size .u8 27 32 key := heap_alloc2_old w _ _
  have g1 : ArrAt ((w.alloc (.cells (WA .u8 32 key) 27)).alloc (.cells (WA .u8 12 nonce) 65)) (w.heap.size + 1) .u8 65 12 nonce := heap_alloc2_new w _ _
  have hB : Below w.heap.size w ((w.alloc (.cells (WA .u8 32 key) 27)).alloc (.cells (WA .u8 12 nonce) 65)) := ((Below.refl _ w).alloc (by simp) _).alloc (by simp) _
  by_cases h16 : 16 ≤ box.size
  · obtain ⟨n, hnn⟩ : ∃ n, box.size = n + 16 := ⟨box.size - 16, by omega⟩
    have hnI : (box.size : Int) - 16 = (n : Int) := by omega
    have hnw := i64_wrap (n := (n : Int)) (by omega) (by omega)
    have HNB : Hid (n ≤ box.size) := Hid.mk (by omega)
    have hU := take_size box n (by omega)
    have HMK : Hid (∀ ww : World, Calls Tryz.prog 44 #[.agg (WA .u8 32 key), .agg (WA .u8 12 nonce), .string (box.extract 0 n), .string beside] ww fun e w' => e = .returned (.string (markT key nonce (box.extract 0 n) beside)) ∧ Below ww.heap.size ww w') := Hid.mk (fun ww => rmark_run key nonce _ beside ww hk hn (by omega) hbs)
    have HST : Hid (∀ ww : World, Calls Tryz.prog 43 #[.agg (WA .u8 32 key), .int .u32 1, .agg (WA .u8 12 nonce), .string (box.extract 0 n)] ww fun e w' => e = .returned (.string (underT key nonce (box.extract 0 n))) ∧ Below ww.heap.size ww w') := Hid.mk (fun ww => rStream_run key nonce 1 _ ww hk hn (by unfold W32; omega) (by omega))
    have hsub : box.size - 16 = n := by omega
    by_cases heq : (box.extract n box.size) = markT key nonce (box.extract 0 n) beside
    · have HEQ := Hid.mk heq
      have HR : Hid (openT key nonce box beside = (underT key nonce (box.extract 0 n), 0)) := Hid.mk (by unfold openT; rw [hsub, if_pos ⟨h16, heq⟩])
      clear heq hsub hU hnn
      go_enter Tryz.func49, Tryz.ntmps49
      go_wp2_with fail
      refine wp_gen (fun v => ArrAt v w.heap.size .u8 27 32 key ∧ ArrAt v (w.heap.size + 1) .u8 65 12 nonce ∧ Below w.heap.size w v) ⟨g0, g1, hB⟩ ?_
      clear g0 g1 hB
      rintro v0 ⟨g0, g1, hB⟩
      have HG0 : Hid (∀ u, Below v0.heap.size v0 u → ArrAt u w.heap.size .u8 27 32 key) := Hid.mk (fun u hu => g0.kept hu)
      have HG1 : Hid (∀ u, Below v0.heap.size v0 u → ArrAt u (w.heap.size + 1) .u8 65 12 nonce) := Hid.mk (fun u hu => g1.kept hu)
      refine wp_region3 (Below v0.heap.size v0) v0.heap.size
          ([] : List (Nat × Cont))
          [kv (.int .i64 (n : Int)), kv (.bool false), kv (.bool false), kv (.string box), kv (.int .i64 (n : Int)), kv (.string (box.extract n box.size)), kv (.agg (WA .u8 32 key)), kv (.agg (WA .u8 12 nonce)), kv (.string box), kv (.int .i64 (n : Int)), kv (.string (box.extract 0 n)), kv (.string beside), kv (.string (markT key nonce (box.extract 0 n) beside)), kv (.bool false), kv (.bool false)]
          [.none, .none, .none, .none, .none, .none, .none, .none, .none, .none, .none, .none, .none, .none, .none]
          [some 14, some 15, some 16, some 17, some 18, some 19, some 20, some 21, some 22, some 23, some 24, some 25, some 26, some 27, some 28]
          [(10, .int .i64 (n : Int)), (2, .string box), (4, .pointer (some ⟨w.heap.size, 0, none⟩)), (5, .pointer (some ⟨(w.heap.size + 1), 0, none⟩)), (3, .string beside)]
          [[], [.slot 0], [.slot 1], [.slot 2], [.slot 2], [.slot 2, .slot 3, .slot 4], [.slot 2], [.slot 2], [.slot 2], [.slot 2], [.slot 2, .slot 8, .slot 9], [.slot 2], [.slot 2, .slot 6, .slot 7, .slot 10, .slot 11], [.slot 2, .slot 5, .slot 12], [.slot 2, .slot 13]]
          [.slot 14] [14, 15, 16, 17, 18, 19, 20, 21, 22, 23, 24, 25, 26, 27, 28]
          rfl (by kernel_rfl) ⟨rfl, rfl, rfl, rfl, rfl, trivial⟩ (Below.refl _ v0).drew (Nat.le_refl _) trivial trivial (below_G (Nat.le_refl _) trivial)
          ⟨
            -- 0
            (fun Q aq ww own hS hBg fr kn => .inl ⟨trivial, fun K hK => wp_value (exec_move rfl fr.1) (hK _ _ ⟨Touch.refl _ _, rfl⟩)⟩),
            -- 1
            (fun Q aq ww own hS hBg fr kn => .inl ⟨trivial, fun K hK => wp_value (exec_lssF0 rfl kn.1 rfl (by omega)) (hK _ _ ⟨Touch.refl _ _, rfl⟩)⟩),
            -- 2
            (fun Q aq ww own hS hBg fr kn => .inl ⟨trivial, fun K hK => wp_value (exec_move rfl kn.1) (hK _ _ ⟨Touch.refl _ _, rfl⟩)⟩),
            -- 3
            (fun Q aq ww own hS hBg fr kn => .inl ⟨kn.1, fun K hK => wp_value (exec_move rfl fr.2.1) (hK _ _ ⟨Touch.refl _ _, rfl⟩)⟩),
            -- 4
            (fun Q aq ww own hS hBg fr kn => .inl ⟨kn.1, fun K hK => wp_value (exec_move rfl fr.1) (hK _ _ ⟨Touch.refl _ _, rfl⟩)⟩),
            -- 5
            (fun Q aq ww own hS hBg fr kn => .inl ⟨kn.1, fun K hK => wp_value (exec_slL rfl kn.2.1 kn.2.2.1 (strL box n ww HNB.out)) (hK _ _ ⟨Touch.refl _ _, rfl⟩)⟩),
            -- 6
            (fun Q aq ww own hS hBg fr kn => .inl ⟨kn.1, fun K hK => wp_value (look_arr rfl isArr32 (HG0.out ww hS) fr.2.2.1) (hK _ _ ⟨Touch.refl _ _, rfl⟩)⟩),
            -- 7
            (fun Q aq ww own hS hBg fr kn => .inl ⟨kn.1, fun K hK => wp_value (look_arr rfl isArr12 (HG1.out ww hS) fr.2.2.2.1) (hK _ _ ⟨Touch.refl _ _, rfl⟩)⟩),
            -- 8
            (fun Q aq ww own hS hBg fr kn => .inl ⟨kn.1, fun K hK => wp_value (exec_move rfl fr.2.1) (hK _ _ ⟨Touch.refl _ _, rfl⟩)⟩),
            -- 9
            (fun Q aq ww own hS hBg fr kn => .inl ⟨kn.1, fun K hK => wp_value (exec_move rfl fr.1) (hK _ _ ⟨Touch.refl _ _, rfl⟩)⟩),
            -- 10
            (fun Q aq ww own hS hBg fr kn => .inl ⟨kn.1, fun K hK => wp_value (exec_slH rfl kn.2.1 kn.2.2.1 (strH box n ww HNB.out)) (hK _ _ ⟨Touch.refl _ _, rfl⟩)⟩),
            -- 11
            (fun Q aq ww own hS hBg fr kn => .inl ⟨kn.1, fun K hK => wp_value (exec_move rfl fr.2.2.2.2.1) (hK _ _ ⟨Touch.refl _ _, rfl⟩)⟩),
            -- 12
            (fun Q aq ww own hS hBg fr kn => .inl ⟨kn.1, fun K hK => stepc enterRMark rfl (args4 kn.2.1 kn.2.2.1 kn.2.2.2.1 kn.2.2.2.2.1) (HMK.out ww) (fun w' hb => hK _ _ ⟨touch_below hb, rfl⟩)⟩),
            -- 13
            (fun Q aq ww own hS hBg fr kn => .inl ⟨kn.1, fun K hK => wp_value (exec_neqS rfl kn.2.1 kn.2.2.1 HEQ.out) (hK _ _ ⟨Touch.refl _ _, rfl⟩)⟩),
            -- 14
            (fun Q aq ww own hS hBg fr kn => .inl ⟨trivial, fun K hK => wp_value (exec_pickF rfl kn.1 kn.2.1) (hK _ _ ⟨Touch.refl _ _, rfl⟩)⟩),
            trivial⟩ ?_
      intro vs own v5 hB5 hs5 kn inj
      clear inj hs5
      replace g0 := g0.kept hB5
      replace g1 := g1.kept hB5
      replace hB := hB.trans (hB5.mono hB.size)
      have e28 : vs 28 = .bool false := kn.1
      clear kn hB5 HG0 HG1
      simp only [putAll, Act.put, List.setIfInBounds_toArray, List.set_cons_zero, List.set_cons_succ, e28]
      go_wp2_with fail
      refine wp_gen (fun v => ArrAt v w.heap.size .u8 27 32 key ∧ ArrAt v (w.heap.size + 1) .u8 65 12 nonce ∧ Below w.heap.size w v) ⟨g0, g1, hB⟩ ?_
      clear g0 g1 hB
      rintro v0 ⟨g0, g1, hB⟩
      have HG0 : Hid (∀ u, Below v0.heap.size v0 u → ArrAt u w.heap.size .u8 27 32 key) := Hid.mk (fun u hu => g0.kept hu)
      have HG1 : Hid (∀ u, Below v0.heap.size v0 u → ArrAt u (w.heap.size + 1) .u8 65 12 nonce) := Hid.mk (fun u hu => g1.kept hu)
      refine wp_region3 (Below v0.heap.size v0) v0.heap.size
          ([] : List (Nat × Cont))
          [kv (.agg (WA .u8 32 key)), kv (.agg (WA .u8 12 nonce)), kv (.string box), kv (.int .i64 (n : Int)), kv (.string (box.extract 0 n)), kv (.string (underT key nonce (box.extract 0 n))), kv (.string (underT key nonce (box.extract 0 n))), kv (.int .i64 0)]
          [.none, .none, .none, .none, .none, .none, .none, .none]
          [some 29, some 30, some 31, some 32, some 33, some 34, some 8, some 9]
          [(4, .pointer (some ⟨w.heap.size, 0, none⟩)), (5, .pointer (some ⟨(w.heap.size + 1), 0, none⟩)), (2, .string box), (10, .int .i64 (n : Int))]
          [[], [], [], [], [.slot 2, .slot 3], [.slot 0, .slot 1, .slot 4], [.slot 5], []]
          [.slot 6, .slot 7] [29, 30, 31, 32, 33, 34, 8, 9]
          rfl (by kernel_rfl) ⟨rfl, rfl, rfl, rfl, trivial⟩ (Below.refl _ v0).drew (Nat.le_refl _) trivial trivial (below_G (Nat.le_refl _) trivial)
          ⟨
            -- 0
            (fun Q aq ww own hS hBg fr kn => .inl ⟨trivial, fun K hK => wp_value (look_arr rfl isArr32 (HG0.out ww hS) fr.1) (hK _ _ ⟨Touch.refl _ _, rfl⟩)⟩),
            -- 1
            (fun Q aq ww own hS hBg fr kn => .inl ⟨trivial, fun K hK => wp_value (look_arr rfl isArr12 (HG1.out ww hS) fr.2.1) (hK _ _ ⟨Touch.refl _ _, rfl⟩)⟩),
            -- 2
            (fun Q aq ww own hS hBg fr kn => .inl ⟨trivial, fun K hK => wp_value (exec_move rfl fr.2.2.1) (hK _ _ ⟨Touch.refl _ _, rfl⟩)⟩),
            -- 3
            (fun Q aq ww own hS hBg fr kn => .inl ⟨trivial, fun K hK => wp_value (exec_move rfl fr.2.2.2.1) (hK _ _ ⟨Touch.refl _ _, rfl⟩)⟩),
            -- 4
            (fun Q aq ww own hS hBg fr kn => .inl ⟨trivial, fun K hK => wp_value (exec_slH rfl kn.1 kn.2.1 (strH box n ww HNB.out)) (hK _ _ ⟨Touch.refl _ _, rfl⟩)⟩),
            -- 5
            (fun Q aq ww own hS hBg fr kn => .inl ⟨trivial, fun K hK => stepc enterRStream rfl (args4 kn.1 rfl kn.2.1 kn.2.2.1) (HST.out ww) (fun w' hb => hK _ _ ⟨touch_below hb, rfl⟩)⟩),
            -- 6
            (fun Q aq ww own hS hBg fr kn => .inl ⟨trivial, fun K hK => wp_value (exec_assign rfl kn.1) (hK _ _ ⟨Touch.refl _ _, rfl⟩)⟩),
            -- 7
            (fun Q aq ww own hS hBg fr kn => .inl ⟨trivial, fun K hK => wp_value (exec_assign (v := .int .i64 0) rfl rfl) (hK _ _ ⟨Touch.refl _ _, rfl⟩)⟩),
            trivial⟩ ?_
      intro vs own v5 hB5 hs5 kn inj
      have e8 : vs 8 = _ := kn.1
      have e9 : vs 9 = _ := kn.2.1
      simp only [putAll, Act.put, List.setIfInBounds_toArray, List.set_cons_zero, List.set_cons_succ, e8, e9]
      go_wp2_with fail
      exact bodyPost_ret (v := .tuple #[.string (underT key nonce (box.extract 0 n)), .int .i64 0]) (results_two Tryz.results49 (by rfl) (by rfl)) rfl ⟨by rw [HR.out], hB.trans (hB5.mono hB.size)⟩
    · have HEQ := Hid.mk heq
      have HR : Hid (openT key nonce box beside = (ByteArray.empty, 13)) := Hid.mk (by unfold openT; rw [hsub, if_neg (fun h => heq h.2)])
      clear heq hsub hU hnn
      go_enter Tryz.func49, Tryz.ntmps49
      go_wp2_with fail
      refine wp_gen (fun v => ArrAt v w.heap.size .u8 27 32 key ∧ ArrAt v (w.heap.size + 1) .u8 65 12 nonce ∧ Below w.heap.size w v) ⟨g0, g1, hB⟩ ?_
      clear g0 g1 hB
      rintro v0 ⟨g0, g1, hB⟩
      have HG0 : Hid (∀ u, Below v0.heap.size v0 u → ArrAt u w.heap.size .u8 27 32 key) := Hid.mk (fun u hu => g0.kept hu)
      have HG1 : Hid (∀ u, Below v0.heap.size v0 u → ArrAt u (w.heap.size + 1) .u8 65 12 nonce) := Hid.mk (fun u hu => g1.kept hu)
      refine wp_region3 (Below v0.heap.size v0) v0.heap.size
          ([] : List (Nat × Cont))
          [kv (.int .i64 (n : Int)), kv (.bool false), kv (.bool false), kv (.string box), kv (.int .i64 (n : Int)), kv (.string (box.extract n box.size)), kv (.agg (WA .u8 32 key)), kv (.agg (WA .u8 12 nonce)), kv (.string box), kv (.int .i64 (n : Int)), kv (.string (box.extract 0 n)), kv (.string beside), kv (.string (markT key nonce (box.extract 0 n) beside)), kv (.bool true), kv (.bool true)]
          [.none, .none, .none, .none, .none, .none, .none, .none, .none, .none, .none, .none, .none, .none, .none]
          [some 14, some 15, some 16, some 17, some 18, some 19, some 20, some 21, some 22, some 23, some 24, some 25, some 26, some 27, some 28]
          [(10, .int .i64 (n : Int)), (2, .string box), (4, .pointer (some ⟨w.heap.size, 0, none⟩)), (5, .pointer (some ⟨(w.heap.size + 1), 0, none⟩)), (3, .string beside)]
          [[], [.slot 0], [.slot 1], [.slot 2], [.slot 2], [.slot 2, .slot 3, .slot 4], [.slot 2], [.slot 2], [.slot 2], [.slot 2], [.slot 2, .slot 8, .slot 9], [.slot 2], [.slot 2, .slot 6, .slot 7, .slot 10, .slot 11], [.slot 2, .slot 5, .slot 12], [.slot 2, .slot 13]]
          [.slot 14] [14, 15, 16, 17, 18, 19, 20, 21, 22, 23, 24, 25, 26, 27, 28]
          rfl (by kernel_rfl) ⟨rfl, rfl, rfl, rfl, rfl, trivial⟩ (Below.refl _ v0).drew (Nat.le_refl _) trivial trivial (below_G (Nat.le_refl _) trivial)
          ⟨
            -- 0
            (fun Q aq ww own hS hBg fr kn => .inl ⟨trivial, fun K hK => wp_value (exec_move rfl fr.1) (hK _ _ ⟨Touch.refl _ _, rfl⟩)⟩),
            -- 1
            (fun Q aq ww own hS hBg fr kn => .inl ⟨trivial, fun K hK => wp_value (exec_lssF0 rfl kn.1 rfl (by omega)) (hK _ _ ⟨Touch.refl _ _, rfl⟩)⟩),
            -- 2
            (fun Q aq ww own hS hBg fr kn => .inl ⟨trivial, fun K hK => wp_value (exec_move rfl kn.1) (hK _ _ ⟨Touch.refl _ _, rfl⟩)⟩),
            -- 3
            (fun Q aq ww own hS hBg fr kn => .inl ⟨kn.1, fun K hK => wp_value (exec_move rfl fr.2.1) (hK _ _ ⟨Touch.refl _ _, rfl⟩)⟩),
            -- 4
            (fun Q aq ww own hS hBg fr kn => .inl ⟨kn.1, fun K hK => wp_value (exec_move rfl fr.1) (hK _ _ ⟨Touch.refl _ _, rfl⟩)⟩),
            -- 5
            (fun Q aq ww own hS hBg fr kn => .inl ⟨kn.1, fun K hK => wp_value (exec_slL rfl kn.2.1 kn.2.2.1 (strL box n ww HNB.out)) (hK _ _ ⟨Touch.refl _ _, rfl⟩)⟩),
            -- 6
            (fun Q aq ww own hS hBg fr kn => .inl ⟨kn.1, fun K hK => wp_value (look_arr rfl isArr32 (HG0.out ww hS) fr.2.2.1) (hK _ _ ⟨Touch.refl _ _, rfl⟩)⟩),
            -- 7
            (fun Q aq ww own hS hBg fr kn => .inl ⟨kn.1, fun K hK => wp_value (look_arr rfl isArr12 (HG1.out ww hS) fr.2.2.2.1) (hK _ _ ⟨Touch.refl _ _, rfl⟩)⟩),
            -- 8
            (fun Q aq ww own hS hBg fr kn => .inl ⟨kn.1, fun K hK => wp_value (exec_move rfl fr.2.1) (hK _ _ ⟨Touch.refl _ _, rfl⟩)⟩),
            -- 9
            (fun Q aq ww own hS hBg fr kn => .inl ⟨kn.1, fun K hK => wp_value (exec_move rfl fr.1) (hK _ _ ⟨Touch.refl _ _, rfl⟩)⟩),
            -- 10
            (fun Q aq ww own hS hBg fr kn => .inl ⟨kn.1, fun K hK => wp_value (exec_slH rfl kn.2.1 kn.2.2.1 (strH box n ww HNB.out)) (hK _ _ ⟨Touch.refl _ _, rfl⟩)⟩),
            -- 11
            (fun Q aq ww own hS hBg fr kn => .inl ⟨kn.1, fun K hK => wp_value (exec_move rfl fr.2.2.2.2.1) (hK _ _ ⟨Touch.refl _ _, rfl⟩)⟩),
            -- 12
            (fun Q aq ww own hS hBg fr kn => .inl ⟨kn.1, fun K hK => stepc enterRMark rfl (args4 kn.2.1 kn.2.2.1 kn.2.2.2.1 kn.2.2.2.2.1) (HMK.out ww) (fun w' hb => hK _ _ ⟨touch_below hb, rfl⟩)⟩),
            -- 13
            (fun Q aq ww own hS hBg fr kn => .inl ⟨kn.1, fun K hK => wp_value (exec_neqST rfl kn.2.1 kn.2.2.1 HEQ.out) (hK _ _ ⟨Touch.refl _ _, rfl⟩)⟩),
            -- 14
            (fun Q aq ww own hS hBg fr kn => .inl ⟨trivial, fun K hK => wp_value (exec_pickF rfl kn.1 kn.2.1) (hK _ _ ⟨Touch.refl _ _, rfl⟩)⟩),
            trivial⟩ ?_
      intro vs own v5 hB5 hs5 kn inj
      clear inj hs5
      replace g0 := g0.kept hB5
      replace g1 := g1.kept hB5
      replace hB := hB.trans (hB5.mono hB.size)
      have e28 : vs 28 = .bool true := kn.1
      clear kn hB5 HG0 HG1
      simp only [putAll, Act.put, List.setIfInBounds_toArray, List.set_cons_zero, List.set_cons_succ, e28]
      go_wp2_with fail
      exact bodyPost_ret (v := .tuple #[.string ByteArray.empty, .int .i64 13]) (results_two Tryz.results49 (by rfl) (by rfl)) rfl ⟨by rw [HR.out], hB⟩
  · have HR : Hid (openT key nonce box beside = (ByteArray.empty, 13)) := Hid.mk (by unfold openT; rw [if_neg (fun h => h16 h.1)])
    have hnw := i64_wrap (n := (box.size : Int) - 16) (by omega) (by omega)
    go_enter Tryz.func49, Tryz.ntmps49
    go_wp2_with fail
    refine wp_gen (fun v => ArrAt v w.heap.size .u8 27 32 key ∧ ArrAt v (w.heap.size + 1) .u8 65 12 nonce ∧ Below w.heap.size w v) ⟨g0, g1, hB⟩ ?_
    clear g0 g1 hB
    rintro v0 ⟨g0, g1, hB⟩
    have HG0 : Hid (∀ u, Below v0.heap.size v0 u → ArrAt u w.heap.size .u8 27 32 key) := Hid.mk (fun u hu => g0.kept hu)
    have HG1 : Hid (∀ u, Below v0.heap.size v0 u → ArrAt u (w.heap.size + 1) .u8 65 12 nonce) := Hid.mk (fun u hu => g1.kept hu)
    refine wp_region3 (Below v0.heap.size v0) v0.heap.size
        ([] : List (Nat × Cont))
        [kv (.int .i64 ((box.size : Int) - 16)), kv (.bool true), kv (.bool true), .val fun _ => True, .val fun _ => True, .val fun _ => True, .val fun _ => True, .val fun _ => True, .val fun _ => True, .val fun _ => True, .val fun _ => True, .val fun _ => True, .val fun _ => True, .val fun _ => True, kv (.bool true)]
        [.none, .none, .none, .none, .none, .none, .none, .none, .none, .none, .none, .none, .none, .none, .none]
        [some 14, some 15, some 16, some 17, some 18, some 19, some 20, some 21, some 22, some 23, some 24, some 25, some 26, some 27, some 28]
        [(10, .int .i64 ((box.size : Int) - 16))]
        [[], [.slot 0], [.slot 1], [.slot 2], [.slot 2], [.slot 2], [.slot 2], [.slot 2], [.slot 2], [.slot 2], [.slot 2], [.slot 2], [.slot 2], [.slot 2], [.slot 2]]
        [.slot 14] [14, 15, 16, 17, 18, 19, 20, 21, 22, 23, 24, 25, 26, 27, 28]
        rfl (by kernel_rfl) ⟨rfl, trivial⟩ (Below.refl _ v0).drew (Nat.le_refl _) trivial trivial (below_G (Nat.le_refl _) trivial)
        ⟨
          -- 0
          (fun Q aq ww own hS hBg fr kn => .inl ⟨trivial, fun K hK => wp_value (exec_move rfl fr.1) (hK _ _ ⟨Touch.refl _ _, rfl⟩)⟩),
          -- 1
          (fun Q aq ww own hS hBg fr kn => .inl ⟨trivial, fun K hK => wp_value (exec_lssT0 rfl kn.1 rfl (by omega)) (hK _ _ ⟨Touch.refl _ _, rfl⟩)⟩),
          -- 2
          (fun Q aq ww own hS hBg fr kn => .inl ⟨trivial, fun K hK => wp_value (exec_move rfl kn.1) (hK _ _ ⟨Touch.refl _ _, rfl⟩)⟩),
          -- 3
          (fun Q aq ww own hS hBg fr kn => .inr ⟨.inl kn.1, Touch.refl _ _, trivial⟩),
          -- 4
          (fun Q aq ww own hS hBg fr kn => .inr ⟨.inl kn.1, Touch.refl _ _, trivial⟩),
          -- 5
          (fun Q aq ww own hS hBg fr kn => .inr ⟨.inl kn.1, Touch.refl _ _, trivial⟩),
          -- 6
          (fun Q aq ww own hS hBg fr kn => .inr ⟨.inl kn.1, Touch.refl _ _, trivial⟩),
          -- 7
          (fun Q aq ww own hS hBg fr kn => .inr ⟨.inl kn.1, Touch.refl _ _, trivial⟩),
          -- 8
          (fun Q aq ww own hS hBg fr kn => .inr ⟨.inl kn.1, Touch.refl _ _, trivial⟩),
          -- 9
          (fun Q aq ww own hS hBg fr kn => .inr ⟨.inl kn.1, Touch.refl _ _, trivial⟩),
          -- 10
          (fun Q aq ww own hS hBg fr kn => .inr ⟨.inl kn.1, Touch.refl _ _, trivial⟩),
          -- 11
          (fun Q aq ww own hS hBg fr kn => .inr ⟨.inl kn.1, Touch.refl _ _, trivial⟩),
          -- 12
          (fun Q aq ww own hS hBg fr kn => .inr ⟨.inl kn.1, Touch.refl _ _, trivial⟩),
          -- 13
          (fun Q aq ww own hS hBg fr kn => .inr ⟨.inl kn.1, Touch.refl _ _, trivial⟩),
          -- 14
          (fun Q aq ww own hS hBg fr kn => .inl ⟨trivial, fun K hK => wp_value (exec_pick (v := .bool true) rfl kn.1 rfl) (hK _ _ ⟨Touch.refl _ _, rfl⟩)⟩),
          trivial⟩ ?_
    intro vs own v5 hB5 hs5 kn inj
    clear inj hs5
    replace g0 := g0.kept hB5
    replace g1 := g1.kept hB5
    replace hB := hB.trans (hB5.mono hB.size)
    have e28 : vs 28 = .bool true := kn.1
    clear kn hB5 HG0 HG1
    simp only [putAll, Act.put, List.setIfInBounds_toArray, List.set_cons_zero, List.set_cons_succ, e28]
    go_wp2_with fail
    exact bodyPost_ret (v := .tuple #[.string ByteArray.empty, .int .i64 13]) (results_two Tryz.results49 (by rfl) (by rfl)) rfl ⟨by rw [HR.out], hB⟩
end Go.Proofs.YtbkbcfimpaolmaaGreat
/-
  Own text. What Same of package aead answers.
-/
namespace Go.Proofs.YtbkbcfimpaolmaaGreat
open Go.RowKit Go.Proofs
set_option maxRecDepth 100000
theorem differ_next (d : Int) (x y : UInt8) (hd : 0 ≤ d ∧ d < 256) : ∃ e : Int, bits .or .u8 d (bits .xor .u8 (x.toNat : Int) (y.toNat : Int)) = e ∧ (0 ≤ e ∧ e < 256) ∧ (e = 0 ↔ d = 0 ∧ x = y) := by
  refine ⟨_, rfl, ?_⟩
  have hx : x.toNat < 256 := x.toNat_lt
  have hy : y.toNat < 256 := y.toNat_lt
  have h1 := Nat.xor_lt_two_pow (x := x.toNat) (y := y.toNat) (n := 8) hx hy
  have h2 := Nat.or_lt_two_pow (x := d.toNat) (y := x.toNat ^^^ y.toNat) (n := 8) (by omega) h1
  rw [u8_xor_nat _ _ hx hy, u8_or _ _ hd.1 hd.2 (by omega) (by omega), Int.toNat_natCast]
  refine ⟨⟨by omega, by omega⟩, ?_⟩
  have h3 : ((d.toNat ||| (x.toNat ^^^ y.toNat) : Nat) : Int) = 0 ↔ d.toNat = 0 ∧ x.toNat = y.toNat := by
    rw [Int.natCast_eq_zero, Nat.or_eq_zero_iff, xor_zero]
  rw [h3, UInt8.toNat_inj]
  exact ⟨fun h => ⟨by omega, h.2⟩, fun h => ⟨by omega, h.2⟩⟩
set_option maxHeartbeats 4000000 in
theorem Same_run (a b : ByteArray) (w : World) (ha : a.size ≤ 1152921504606846976) :
    Calls Tryz.prog 84 #[.string a, .string b] w fun e w' => e = .returned (.bool (decide (a = b))) ∧ Below w.heap.size w w' := by
  by_cases hl : a.size = b.size
  · have hlI : (a.size : Int) = (b.size : Int) := by omega
    have hB := Below.refl w.heap.size w
    go_enter Tryz.func84, Tryz.ntmps84
    go_wp2_with fail
    go_loopg [5, 14] a.size (fun gm dv iv v => ∃ (i : Nat) (d : Int), Hid (gm + i = a.size) ∧ iv = .int .i64 (i : Int) ∧ dv = .int .u8 d ∧ (0 ≤ d ∧ d < 256) ∧ Hid (d = 0 ↔ ∀ j, j < i → txt a j = txt b j) ∧ Below w.heap.size w v)
    case atStart => exact ⟨0, 0, Hid.mk rfl, rfl, rfl, by omega, Hid.mk ⟨fun _ j hj => by omega, fun _ => rfl⟩, hB⟩
    case round =>
      clear hB
      obtain ⟨i, d, HI, rfl, rfl, hd, HD, hB⟩ := hrel
      have hi8 : i ≤ a.size := by have := HI.out; omega
      by_cases hil : i < a.size
      · have hib : i < b.size := by omega
        obtain ⟨e, he, he2, he3⟩ := differ_next d a[i] b[i] hd
        have HE : Hid (e = 0 ↔ ∀ j, j < i + 1 → txt a j = txt b j) := Hid.mk (by
          have t1 : (a[i] = b[i]) ↔ txt a i = txt b i := by
            rw [← txt_get hil, ← txt_get hib]
            constructor
            · intro h; rw [h]
            · intro h; exact UInt8.toNat_inj.1 (by omega)
          rw [he3, HD.out, t1]
          constructor
          · rintro ⟨h1, h2⟩ j hj
            by_cases e : j = i
            · rw [e]; exact h2
            · exact h1 j (by omega)
          · intro h
            exact ⟨fun j hj => h j (by omega), h i (by omega)⟩)
        clear he3 HD
        go_wp2_with fail
        go_region
        clear he
        replace hB := hB.drew
        generalize wr.drew = wr2 at *
        go_wp2_with fail
        go_roundg (a.size - (i + 1))
        case rel => exact ⟨i + 1, e, Hid.mk (by omega), by go_num, rfl, he2, HE, hB⟩
        case measure => have := HI.out; omega
      · have hi2 : i = a.size := by omega
        subst hi2
        have hE : (d == 0) = decide (a = b) := by
          show decide (d = 0) = _
          refine decide_eq_decide.2 (HD.out.trans ⟨fun h => same_ext hl h, fun h => ?_⟩)
          rw [h]
          exact fun _ _ => rfl
        clear HD
        go_wp2_with fail
        go_ret
        exact ⟨by rw [← hE]; rfl, hB⟩
  · have hlI : ¬ (a.size : Int) = (b.size : Int) := by omega
    have hE : decide (a = b) = false := decide_eq_false (fun h => hl (by rw [h]))
    have HE := Hid.mk hE
    clear hE hl
    go_enter Tryz.func84, Tryz.ntmps84
    go_wp2_with fail
    go_ret
    exact ⟨by rw [HE.out]; rfl, Below.refl _ _⟩
end Go.Proofs.YtbkbcfimpaolmaaGreat
/-
  Own text. What Seal of package aead answers.
-/
namespace Go.Proofs.YtbkbcfimpaolmaaGreat
open Go.RowKit Go.Proofs
set_option maxRecDepth 100000
theorem mark2 (key nonce : Nat → Int) (under beside : ByteArray) (pv : Value) (w : World) (hk : Byts 32 key) (hn : Byts 12 nonce) (hv : Strs w pv 2 (two2 beside under)) (hu : under.size ≤ 1152921504606846976) (hb : beside.size ≤ 1152921504606846976) :
    Calls Tryz.prog 56 #[.agg (WA .u8 32 key), .agg (WA .u8 12 nonce), pv] w fun e w' => e = .returned (.agg (WA .u8 16 (digN (markN (onceK key nonce) (txt (marked under beside)) (marked under beside).size)))) ∧ Below w.heap.size w w' := by
  have h := markOf_run key nonce pv (two2 beside under) w hk hn hv (fun j hj => by
    match j, hj with
    | 0, _ => exact hb
    | 1, _ => exact hu)
  rw [join6] at h
  exact h
set_option maxHeartbeats 4000000 in
theorem Seal_run (key nonce : Nat → Int) (text beside : ByteArray) (w : World) (hk : Byts 32 key) (hn : Byts 12 nonce) (ht : text.size ≤ 140737488355328) (hbs : beside.size ≤ 281474976710656) :
    Calls Tryz.prog 34 #[.agg (WA .u8 32 key), .agg (WA .u8 12 nonce), .string text, .string beside] w fun e w' => e = .returned (.string (boxT key nonce text beside)) ∧ Below w.heap.size w w' := by
  have g0 : ArrAt ((w.alloc (.cells (WA .u8 32 key) 27)).alloc (.cells (WA .u8 12 nonce) 65)) w.heap.size .u8 27 32 key := heap_alloc2_old w _ _
  have g1 : ArrAt ((w.alloc (.cells (WA .u8 32 key) 27)).alloc (.cells (WA .u8 12 nonce) 65)) (w.heap.size + 1) .u8 65 12 nonce := heap_alloc2_new w _ _
  have hB : Below w.heap.size w ((w.alloc (.cells (WA .u8 32 key) 27)).alloc (.cells (WA .u8 12 nonce) 65)) := ((Below.refl _ w).alloc (by simp) _).alloc (by simp) _
  have hS := fun w => Stream_run key nonce 1 text w hk hn (by unfold W32; omega) ht
  have hM := fun pv w hv => mark2 key nonce (underT key nonce text) beside pv w hk hn hv (by rw [underT_size]; omega) (by omega)
  have HE : Hid (underT key nonce text ++ markT key nonce (underT key nonce text) beside = boxT key nonce text beside) := Hid.mk rfl
  have hL1 : (underT key nonce text).size + (markT key nonce (underT key nonce text) beside).size ≤ 9223372036854775807 := by rw [underT_size, markT_size]; omega
  change ∀ w, Calls _ _ _ w fun e w' => e = .returned (.string (underT key nonce text)) ∧ Below w.heap.size w w' at hS
  unfold markT at HE hL1
  have hmb := digN_b (markN (onceK key nonce) (txt (marked (underT key nonce text) beside)) (marked (underT key nonce text) beside).size)
  generalize digN (markN (onceK key nonce) (txt (marked (underT key nonce text) beside)) (marked (underT key nonce text) beside).size) = m at *
  generalize underT key nonce text = u at *
  clear ht
  go_enter Tryz.func34, Tryz.ntmps34
  go_wp2_with (first | (refine ld_arr isArr32 g0 (by rfl) ?_) | (refine ld_arr isArr12 g1 (by rfl) ?_))
  refine (hS _).mono ?_
  rintro e v1 ⟨rfl, hb⟩
  replace g0 := g0.kept hb
  replace g1 := g1.kept hb
  replace hB := hB.trans (hb.mono hB.size)
  clear hb hS
  go_wp2_with (first | (refine ld_arr isArr32 g0 (by rfl) ?_) | (refine ld_arr isArr12 g1 (by rfl) ?_) | (refine wl_bs2 (by rfl) (by rfl) ?_; intro v2 s2 hb2 hz2; refine Hid.out ?_))
  replace hB := hB.trans (hb2.mono hB.size)
  clear hb2 hz2 g0 g1
  refine Hid.mk ?_
  go_wp2_with fail
  refine (hM _ _ s2).mono ?_
  rintro e v3 ⟨rfl, hb3⟩
  replace hB := hB.trans (hb3.mono hB.size)
  clear hb3 s2 hM
  have gn := fun o (ho : o = Obj.cells (WA .u8 16 fun _ => 0) 92 (0, 0)) => (by rw [ho]; exact heap_alloc_new v3 _ : ArrAt (v3.alloc o) v3.heap.size .u8 92 16 (fun _ => 0))
  have HBS := Hid.mk hB.size
  go_wp2_with (refine st_arr isArr16 (gn _ rfl) (by rfl) (by rfl) ?_; intro v4 g4 o4; refine Hid.out ?_)
  replace hB := (hB.alloc HBS.out _).trans (o4.below HBS.out)
  clear o4 gn HBS
  have hcv := str_back 16 v3.heap.size 16 v4 16 m g4.row (fun j _ => hmb j) rfl
  refine Hid.mk ?_
  go_wp2_with (refine wl_value rfl (exec_catS rfl (by rfl) (by rfl) hL1) ?_)
  rw [HE.out]
  go_ret
  exact ⟨rfl, hB⟩
end Go.Proofs.YtbkbcfimpaolmaaGreat
/-
  Own text. What Open of package aead answers.
-/
namespace Go.Proofs.YtbkbcfimpaolmaaGreat
open Go.RowKit Go.Proofs
set_option maxRecDepth 100000
theorem exec_sub16 {a : Act} {o : Oper} {w : World} {x : Operand} (ho : o.op = .binOp .sub 3 x (.const (.int .i64 16)) 3) {m n : Int} (hx : a.eval x = .int .i64 m) (h : m - 16 = n ∧ -9223372036854775808 ≤ n ∧ n < 9223372036854775808) : (execOp a.eval o).run Tryz.prog w = .ok (.value (.int .i64 n)) w :=
  exec_bin ho rfl hx rfl (by simp [go_sem, h.1, i64_wrap h.2.1 h.2.2])
set_option maxHeartbeats 8000000 in
theorem Open_run (key nonce : Nat → Int) (box beside : ByteArray) (w : World) (hk : Byts 32 key) (hn : Byts 12 nonce) (ht : box.size ≤ 140737488355328) (hbs : beside.size ≤ 281474976710656) :
    Calls Tryz.prog 64 #[.agg (WA .u8 32 key), .agg (WA .u8 12 nonce), .string box, .string beside] w fun e w' => e = .returned (.tuple #[.string (openT key nonce box beside).1, .int .i64 (openT key nonce box beside).2]) ∧ Below w.heap.size w w' := by
  have g0 : ArrAt ((w.alloc (.cells (WA .u8 32 key) 27)).alloc (.cells (WA .u8 12 nonce) 65)) w.heap.size .u8 27 32 key := heap_alloc2_old w _ _
  have g1 : ArrAt ((w.alloc (.cells (WA .u8 32 key) 27)).alloc (.cells (WA .u8 12 nonce) 65)) (w.heap.size + 1) .u8 65 12 nonce := heap_alloc2_new w _ _
  have hB : Below w.heap.size w ((w.alloc (.cells (WA .u8 32 key) 27)).alloc (.cells (WA .u8 12 nonce) 65)) := ((Below.refl _ w).alloc (by simp) _).alloc (by simp) _
  by_cases h16 : 16 ≤ box.size
  · obtain ⟨n, hnn⟩ : ∃ n, box.size = n + 16 := ⟨box.size - 16, by omega⟩
    have HNI : Hid ((box.size : Int) - 16 = (n : Int) ∧ -9223372036854775808 ≤ (n : Int) ∧ (n : Int) < 9223372036854775808) := Hid.mk (by omega)
    have HNB : Hid (n ≤ box.size) := Hid.mk (by omega)
    have hU := take_size box n (by omega)
    have hsub : box.size - 16 = n := by omega
    have HO : Hid (openT key nonce box beside = if (box.extract n box.size) = markT key nonce (box.extract 0 n) beside then (underT key nonce (box.extract 0 n), 0) else (ByteArray.empty, 13)) := Hid.mk (by
      unfold openT
      rw [hsub]
      by_cases e : (box.extract n box.size) = markT key nonce (box.extract 0 n) beside
      · rw [if_pos ⟨h16, e⟩, if_pos e]
      · rw [if_neg (fun h => e h.2), if_neg e])
    have hlI : ¬ (box.size : Int) < 16 := by omega
    have hM := fun pv w hv => mark2 key nonce (box.extract 0 n) beside pv w hk hn hv (by omega) (by omega)
    have hST : ∀ ww : World, Calls Tryz.prog 55 #[.agg (WA .u8 32 key), .int .u32 1, .agg (WA .u8 12 nonce), .string (box.extract 0 n)] ww fun e w' => e = .returned (.string (underT key nonce (box.extract 0 n))) ∧ Below ww.heap.size ww w' := fun ww => Stream_run key nonce 1 _ ww hk hn (by unfold W32; omega) (by omega)
    clear hU hsub hnn
    go_enter Tryz.func64, Tryz.ntmps64
    go_wp2_with fail
    refine wp_gen (fun v => ArrAt v w.heap.size .u8 27 32 key ∧ ArrAt v (w.heap.size + 1) .u8 65 12 nonce ∧ Below w.heap.size w v) ⟨g0, g1, hB⟩ ?_
    clear g0 g1 hB
    rintro v0 ⟨g0, g1, hB⟩
    refine wp_region3 (Below v0.heap.size v0) v0.heap.size
      ([] : List (Nat × Cont))
      [kv (.string box), kv (.string box), kv (.int .i64 (box.size : Int)), kv (.int .i64 (n : Int)), kv (.string (box.extract 0 n)), kv (.string box), kv (.string box), kv (.int .i64 (box.size : Int)), kv (.int .i64 (n : Int)), kv (.string (box.extract n box.size)), kv (.string (box.extract 0 n)), kv (.string (box.extract n box.size))]
      [.none, .none, .none, .none, .none, .none, .none, .none, .none, .none, .none, .none]
      [some 16, some 17, some 18, some 19, some 20, some 21, some 22, some 23, some 24, some 25, some 10, some 11]
      [(2, .string box)]
      [[], [], [.slot 1], [.slot 2], [.slot 0, .slot 3], [], [], [.slot 6], [.slot 7], [.slot 5, .slot 8], [.slot 4], [.slot 9]]
      [.slot 10, .slot 11] [16, 17, 18, 19, 20, 21, 22, 23, 24, 25, 10, 11]
      rfl (by kernel_rfl) ⟨rfl, trivial⟩ (Below.refl _ v0).drew (Nat.le_refl _) trivial trivial (below_G (Nat.le_refl _) trivial)
      ⟨
        -- 0
        (fun Q aq ww own hS hBg fr kn => .inl ⟨trivial, fun K hK => wp_value (exec_move rfl fr.1) (hK _ _ ⟨Touch.refl _ _, rfl⟩)⟩),
        -- 1
        (fun Q aq ww own hS hBg fr kn => .inl ⟨trivial, fun K hK => wp_value (exec_move rfl fr.1) (hK _ _ ⟨Touch.refl _ _, rfl⟩)⟩),
        -- 2
        (fun Q aq ww own hS hBg fr kn => .inl ⟨trivial, fun K hK => wp_value (exec_lenS rfl kn.1) (hK _ _ ⟨Touch.refl _ _, rfl⟩)⟩),
        -- 3
        (fun Q aq ww own hS hBg fr kn => .inl ⟨trivial, fun K hK => wp_value (exec_sub16 rfl kn.1 HNI.out) (hK _ _ ⟨Touch.refl _ _, rfl⟩)⟩),
        -- 4
        (fun Q aq ww own hS hBg fr kn => .inl ⟨trivial, fun K hK => wp_value (exec_slH rfl kn.1 kn.2.1 (strH box n ww HNB.out)) (hK _ _ ⟨Touch.refl _ _, rfl⟩)⟩),
        -- 5
        (fun Q aq ww own hS hBg fr kn => .inl ⟨trivial, fun K hK => wp_value (exec_move rfl fr.1) (hK _ _ ⟨Touch.refl _ _, rfl⟩)⟩),
        -- 6
        (fun Q aq ww own hS hBg fr kn => .inl ⟨trivial, fun K hK => wp_value (exec_move rfl fr.1) (hK _ _ ⟨Touch.refl _ _, rfl⟩)⟩),
        -- 7
        (fun Q aq ww own hS hBg fr kn => .inl ⟨trivial, fun K hK => wp_value (exec_lenS rfl kn.1) (hK _ _ ⟨Touch.refl _ _, rfl⟩)⟩),
        -- 8
        (fun Q aq ww own hS hBg fr kn => .inl ⟨trivial, fun K hK => wp_value (exec_sub16 rfl kn.1 HNI.out) (hK _ _ ⟨Touch.refl _ _, rfl⟩)⟩),
        -- 9
        (fun Q aq ww own hS hBg fr kn => .inl ⟨trivial, fun K hK => wp_value (exec_slL rfl kn.1 kn.2.1 (strL box n ww HNB.out)) (hK _ _ ⟨Touch.refl _ _, rfl⟩)⟩),
        -- 10
        (fun Q aq ww own hS hBg fr kn => .inl ⟨trivial, fun K hK => wp_value (exec_assign rfl kn.1) (hK _ _ ⟨Touch.refl _ _, rfl⟩)⟩),
        -- 11
        (fun Q aq ww own hS hBg fr kn => .inl ⟨trivial, fun K hK => wp_value (exec_assign rfl kn.1) (hK _ _ ⟨Touch.refl _ _, rfl⟩)⟩),
        trivial⟩ ?_
    intro vs own v5 hB5 hs5 kn inj
    clear inj hs5
    replace g0 := g0.kept hB5
    replace g1 := g1.kept hB5
    replace hB := hB.trans (hB5.mono hB.size)
    have e10 : vs 10 = .string (box.extract 0 n) := kn.1
    have e11 : vs 11 = .string (box.extract n box.size) := kn.2.1
    clear kn hB5
    simp only [putAll, Act.put, List.setIfInBounds_toArray, List.set_cons_zero, List.set_cons_succ, e10, e11]
    clear e10 e11 HNI HNB
    unfold markT at HO
    have hmb := digN_b (markN (onceK key nonce) (txt (marked (box.extract 0 n) beside)) (marked (box.extract 0 n) beside).size)
    generalize digN (markN (onceK key nonce) (txt (marked (box.extract 0 n) beside)) (marked (box.extract 0 n) beside).size) = m at *
    generalize underT key nonce (box.extract 0 n) = ut at *
    generalize (box.extract 0 n) = u at *
    generalize (box.extract n box.size) = x at *
    go_wp2_with (first | (refine ld_arr isArr32 g0 (by rfl) ?_) | (refine ld_arr isArr12 g1 (by rfl) ?_) | (refine wl_bs2 (by rfl) (by rfl) ?_; intro v2 s2 hb2 hz2; refine Hid.out ?_))
    replace hB := hB.trans (hb2.mono hB.size)
    replace g0 := g0.kept hb2
    replace g1 := g1.kept hb2
    clear hb2 hz2
    refine Hid.mk ?_
    go_wp2_with fail
    refine (hM _ _ s2).mono ?_
    rintro e v3 ⟨rfl, hb3⟩
    replace hB := hB.trans (hb3.mono hB.size)
    replace g0 := g0.kept hb3
    replace g1 := g1.kept hb3
    clear hb3 s2 hM
    have gn := fun o (ho : o = Obj.cells (WA .u8 16 fun _ => 0) 92 (0, 0)) => (by rw [ho]; exact heap_alloc_new v3 _ : ArrAt (v3.alloc o) v3.heap.size .u8 92 16 (fun _ => 0))
    have HBS := Hid.mk hB.size
    have hz0 := g0.lt
    have hz1 := g1.lt
    go_wp2_with (refine st_arr isArr16 (gn _ rfl) (by rfl) (by rfl) ?_; intro v4 g4 o4; refine Hid.out ?_)
    replace hB := (hB.alloc HBS.out _).trans (o4.below HBS.out)
    replace g0 := (g0.alloc _).only o4 (by omega)
    replace g1 := (g1.alloc _).only o4 (by omega)
    clear o4 gn HBS hz0 hz1
    have hcv := str_back 16 v3.heap.size 16 v4 16 m g4.row (fun j _ => hmb j) rfl
    refine Hid.mk ?_
    go_wp2_with fail
    refine (Same_run (mkS 16 m) x _ (by rw [mkS_size]; omega)).mono ?_
    rintro e v6 ⟨rfl, hb6⟩
    replace hB := hB.trans (hb6.mono hB.size)
    replace g0 := g0.kept hb6
    replace g1 := g1.kept hb6
    clear hb6 g4 hcv
    by_cases heq : x = mkS 16 m
    · have hd : decide (mkS 16 m = x) = true := decide_eq_true heq.symm
      have HR : Hid (openT key nonce box beside = (ut, 0)) := Hid.mk (by rw [HO.out, if_pos heq])
      rw [hd]
      clear heq hd HO
      go_wp2_with (first | (refine ld_arr isArr32 g0 (by rfl) ?_) | (refine ld_arr isArr12 g1 (by rfl) ?_))
      refine (hST _).mono ?_
      rintro e v7 ⟨rfl, hb7⟩
      replace hB := hB.trans (hb7.mono hB.size)
      clear hb7 g0 g1 hST
      go_wp2_with fail
      exact bodyPost_ret (v := .tuple #[.string ut, .int .i64 0]) (results_two Tryz.results64 (by rfl) (by rfl)) rfl ⟨by rw [HR.out], hB⟩
    · have hd : decide (mkS 16 m = x) = false := decide_eq_false (fun h => heq h.symm)
      have HR : Hid (openT key nonce box beside = (ByteArray.empty, 13)) := Hid.mk (by rw [HO.out, if_neg heq])
      rw [hd]
      clear heq hd HO hST
      go_wp2_with fail
      exact bodyPost_ret (v := .tuple #[.string ByteArray.empty, .int .i64 13]) (results_two Tryz.results64 (by rfl) (by rfl)) rfl ⟨by rw [HR.out], hB⟩
  · have HR : Hid (openT key nonce box beside = (ByteArray.empty, 13)) := Hid.mk (by unfold openT; rw [if_neg (fun h => h16 h.1)])
    have hlI : (box.size : Int) < 16 := by omega
    go_enter Tryz.func64, Tryz.ntmps64
    go_wp2_with fail
    exact bodyPost_ret (v := .tuple #[.string ByteArray.empty, .int .i64 13]) (results_two Tryz.results64 (by rfl) (by rfl)) rfl ⟨by rw [HR.out], hB⟩
end Go.Proofs.YtbkbcfimpaolmaaGreat
/-
  Own text. What behindZeros and Nonce of package aead answer.
-/
namespace Go.Proofs.YtbkbcfimpaolmaaGreat
open Go.RowKit Go.Proofs
set_option maxRecDepth 100000
theorem sl12L4 (b : Nat) (w : World) : (Instr.sliceAt 65 (.pointer (some ⟨b, 0, none⟩)) (some (.int .i64 4)) none none).run Tryz.prog w = .ok (.slice (some ⟨b, 4, none⟩) 8 8) w := by simp [go_sem]
theorem sl8w (b : Nat) (w : World) : (Instr.sliceAt 95 (.pointer (some ⟨b, 0, none⟩)) none none none).run Tryz.prog w = .ok (.slice (some ⟨b, 0, none⟩) 8 8) w := by simp [go_sem]
theorem sl12w (b : Nat) (w : World) : (Instr.sliceAt 65 (.pointer (some ⟨b, 0, none⟩)) none none none).run Tryz.prog w = .ok (.slice (some ⟨b, 0, none⟩) 12 12) w := by simp [go_sem]
theorem sl16W (b : Nat) (w : World) : (Instr.sliceAt 92 (.pointer (some ⟨b, 0, none⟩)) none none none).run Tryz.prog w = .ok (.slice (some ⟨b, 0, none⟩) 16 16) w := by simp [go_sem]
/-- The nonce that ends with eight bytes. -/
def tailN (end8 : Nat → Int) : Nat → Int := over (fun _ => 0) 4 8 end8
theorem tailN_b {end8 : Nat → Int} (h : Byts 8 end8) : Byts 12 (tailN end8) := fun i hi => by
  unfold tailN over
  split
  · exact h _ (by omega)
  · show 0 ≤ (0 : Int) ∧ (0 : Int) < 256
    omega
set_option maxHeartbeats 4000000 in
theorem behindZ_run (end8 : Nat → Int) (w : World) :
    Calls Tryz.prog 57 #[.agg (WA .u8 8 end8)] w fun e w' => e = .returned (.agg (WA .u8 12 (tailN end8))) ∧ Below w.heap.size w w' := by
  have g0 : ArrAt (((w.alloc (.cells (WA .u8 8 end8) 95)).alloc (.cells (WA .u8 12 fun _ => 0) 65)).alloc (.cells (WA .u8 12 fun _ => 0) 65)) w.heap.size .u8 95 8 end8 := heap_a31 w _ _ _
  have g1 : ArrAt (((w.alloc (.cells (WA .u8 8 end8) 95)).alloc (.cells (WA .u8 12 fun _ => 0) 65)).alloc (.cells (WA .u8 12 fun _ => 0) 65)) (w.heap.size + 1) .u8 65 12 (fun _ => 0) := heap_a32 w _ _ _
  have g2 : ArrAt (((w.alloc (.cells (WA .u8 8 end8) 95)).alloc (.cells (WA .u8 12 fun _ => 0) 65)).alloc (.cells (WA .u8 12 fun _ => 0) 65)) (w.heap.size + 1 + 1) .u8 65 12 (fun _ => 0) := heap_a3 w _ _ _
  have hB : Below w.heap.size w (((w.alloc (.cells (WA .u8 8 end8) 95)).alloc (.cells (WA .u8 12 fun _ => 0) 65)).alloc (.cells (WA .u8 12 fun _ => 0) 65)) := (((Below.refl _ w).alloc (by simp) _).alloc (by simp) _).alloc (by simp; omega) _
  go_enter Tryz.func57, Tryz.ntmps57
  go_wp2_with fail
  refine wp_gen (fun v => ArrAt v (w.heap.size + 1 + 1) .u8 65 12 (fun _ => 0) ∧ ArrAt v w.heap.size .u8 95 8 (end8) ∧ ArrAt v (w.heap.size + 1) .u8 65 12 (fun _ => 0) ∧ Below w.heap.size w v) ⟨g2, g0, g1, hB⟩ ?_
  clear g2 g0 g1 hB
  rintro v0 ⟨g2, g0, g1, hB⟩
  refine wp_region3 (Below w.heap.size w) v0.heap.size
    [((w.heap.size + 1 + 1), once (WA .u8 12 (fun _ => 0)) 65 2 (WA .u8 12 (over (fun _ => 0) 4 8 (end8)))), (w.heap.size, fixd (WA .u8 8 (end8)) 95), ((w.heap.size + 1), fixd (WA .u8 12 (fun _ => 0)) 65)]
    [kv (.slice (some ⟨(w.heap.size + 1 + 1), 4, none⟩) 8 8), kv (.slice (some ⟨w.heap.size, 0, none⟩) 8 8), .val fun _ => True]
    [.none, .none, .base 0 1]
    [some 4, some 5, some 6]
    [(3, .pointer (some ⟨(w.heap.size + 1 + 1), 0, none⟩)), (1, .pointer (some ⟨w.heap.size, 0, none⟩))]
    [[], [], [.slot 0, .slot 1, .base 0 0, .base 1 0]]
    [.base 0 1, .base 1 0, .base 2 0] [4, 5, 6]
    rfl (by kernel_rfl) ⟨rfl, rfl, trivial⟩ (Below.drew hB) (Nat.le_refl _) ⟨⟨g2.lt, obIn g2⟩, ⟨g0.lt, obIn g0⟩, ⟨g1.lt, obIn g1⟩, trivial⟩ ⟨⟨(show ((w.heap.size + 1 + 1) : Nat) ≠ w.heap.size from by omega), (show ((w.heap.size + 1 + 1) : Nat) ≠ (w.heap.size + 1) from by omega), trivial⟩, ⟨trivial, trivial⟩, trivial, trivial⟩ (below_G hB.size ⟨by omega, by omega, by omega, trivial⟩)
    ⟨
      -- 0
      (fun Q aq ww own hS hBg fr kn => .inl ⟨trivial, fun K hK => wp_value (exec_slL (v := .pointer (some ⟨(w.heap.size + 1 + 1), 0, none⟩)) (u := .int .i64 4) rfl fr.1 rfl (sl12L4 (w.heap.size + 1 + 1) ww)) (hK _ _ ⟨Touch.refl _ _, rfl⟩)⟩),
      -- 1
      (fun Q aq ww own hS hBg fr kn => .inl ⟨trivial, fun K hK => wp_value (exec_sl (v := .pointer (some ⟨w.heap.size, 0, none⟩)) rfl fr.2.1 (sl8w w.heap.size ww)) (hK _ _ ⟨Touch.refl _ _, rfl⟩)⟩),
      -- 2
      (fun Q aq ww own hS hBg fr kn => .inl ⟨trivial, fun K hK => act_copy rfl kn.1 kn.2.1 (obAt kn.2.2.1) (m := 8) rfl (by omega) (r := end8) (fun q hq => by rw [Nat.zero_add]; exact ArrAt.cell (obAt kn.2.2.2.1) q (by omega)) (fun w2 hg ho => hK _ _ ⟨⟨touch_only ho, obIn hg⟩, trivial⟩)⟩),
      trivial⟩ ?_
  intro vs own v1 hB1 hs1 kn inj
  clear inj g2 g0 g1 hB
  have g2 : ArrAt v1 (w.heap.size + 1 + 1) .u8 65 12 (over (fun _ => 0) 4 8 (end8)) := obAt kn.1
  have g0 : ArrAt v1 w.heap.size .u8 95 8 (end8) := obAt kn.2.1
  have g1 : ArrAt v1 (w.heap.size + 1) .u8 65 12 (fun _ => 0) := obAt kn.2.2.1
  have hB := hB1
  clear kn hB1 hs1
  simp only [putAll, Act.put, List.setIfInBounds_toArray, List.set_cons_zero, List.set_cons_succ]
  go_wp2_with (first | (refine ld_arr isArr12 g2 (by rfl) ?_) | (refine st_arr isArr12 g1 (by rfl) (by rfl) ?_; intro v4 g4 o4; refine Hid.out ?_))
  refine Hid.mk ?_
  go_wp2_with fail
  exact bodyPost_ret (res_arr Tryz.results57 isArr12 g4 (by rfl)) rfl ⟨rfl, hB.trans (o4.below (by omega))⟩
set_option maxHeartbeats 4000000 in
theorem Nonce_run (n : Int) (w : World) :
    Calls Tryz.prog 35 #[.int .u64 n] w fun e w' => e = .returned (.agg (WA .u8 12 (tailN (digN n)))) ∧ Below w.heap.size w w' := by
  have g0 : ArrAt (w.alloc (.cells (WA .u8 12 fun _ => 0) 65)) w.heap.size .u8 65 12 (fun _ => 0) := heap_alloc_new w _
  have hB : Below w.heap.size w (w.alloc (.cells (WA .u8 12 fun _ => 0) 65)) := (Below.refl _ w).alloc (Nat.le_refl _) _
  go_enter Tryz.func35, Tryz.ntmps35
  go_wp2_with fail
  refine (lowest_run n _).mono ?_
  rintro e v1 ⟨rfl, hb1⟩
  replace g0 := g0.kept hb1
  replace hB := hB.trans (hb1.mono hB.size)
  clear hb1
  go_wp2_with fail
  refine (behindZ_run (digN n) _).mono ?_
  rintro e v2 ⟨rfl, hb2⟩
  replace g0 := g0.kept hb2
  replace hB := hB.trans (hb2.mono hB.size)
  clear hb2
  go_wp2_with (refine st_arr isArr12 g0 (by rfl) (by rfl) ?_; intro v4 g4 o4; refine Hid.out ?_)
  refine Hid.mk ?_
  go_wp2_with fail
  exact bodyPost_ret (res_arr Tryz.results35 isArr12 g4 (by rfl)) rfl ⟨rfl, hB.trans (o4.below (Nat.le_refl _))⟩
end Go.Proofs.YtbkbcfimpaolmaaGreat
/-
  Own text. What narrow of package aead answers; the document's narrow.
-/
namespace Go.Proofs.YtbkbcfimpaolmaaGreat
open Go.RowKit Go.Proofs
set_option maxRecDepth 100000
theorem enterBehindZ (args : Array Value) (w : World) : (callFunc 57 args).run Tryz.prog w = .ok (.enter 57 args) w := by kernel_rfl
theorem dv_byts (f : Nat → Int) (n : Nat) : ∀ k, Byts n (dv f k)
  | 0 => fun i _ => by
    show 0 ≤ (0 : Int) ∧ (0 : Int) < 256
    omega
  | k + 1 => putw_byts (putw_byts (dv_byts f n k))
theorem der_b (key inn : Nat → Int) : Byts 32 (der key inn) := dv_byts _ _ _
theorem toarr16 (b f cap : Nat) (w : World) : (Instr.arrayAt 92 (.slice (some ⟨b, f, none⟩) 16 cap)).run Tryz.prog w = .ok (.pointer (some ⟨b, f, none⟩)) w := by simp [go_sem, Instr.arrayAt]
theorem toarr8 (b f cap : Nat) (w : World) : (Instr.arrayAt 95 (.slice (some ⟨b, f, none⟩) 8 cap)).run Tryz.prog w = .ok (.pointer (some ⟨b, f, none⟩)) w := by simp [go_sem, Instr.arrayAt]
end Go.Proofs.YtbkbcfimpaolmaaGreat
/-
  Own text. The document's narrow.
-/
namespace Go.Proofs.YtbkbcfimpaolmaaGreat
open Go.RowKit Go.Proofs
set_option maxRecDepth 100000

end Go.Proofs.YtbkbcfimpaolmaaGreat
/-
  Own text. What SealWide and OpenWide answer, of package aead and of the document.
-/
namespace Go.Proofs.YtbkbcfimpaolmaaGreat
open Go.RowKit Go.Proofs
set_option maxRecDepth 100000

end Go.Proofs.YtbkbcfimpaolmaaGreat
/-
  Own text. The document's Nonce.
-/
namespace Go.Proofs.YtbkbcfimpaolmaaGreat
open Go.RowKit Go.Proofs
set_option maxRecDepth 100000
set_option maxHeartbeats 4000000 in
theorem rNonce_run (n : Int) (w : World) (hn : 0 ≤ n ∧ n < 18446744073709551616) :
    Calls Tryz.prog 22 #[.int .u64 n] w fun e w' => e = .returned (.agg (WA .u8 12 (tailN (digN n)))) ∧ Below w.heap.size w w' := by
  have g0 : ArrAt ((w.alloc (.cells (WA .u8 12 fun _ => 0) 65)).alloc (.cells (WA .u8 12 fun _ => 0) 65)) w.heap.size .u8 65 12 (fun _ => 0) := heap_alloc2_old w _ _
  have g1 : ArrAt ((w.alloc (.cells (WA .u8 12 fun _ => 0) 65)).alloc (.cells (WA .u8 12 fun _ => 0) 65)) (w.heap.size + 1) .u8 65 12 (fun _ => 0) := heap_alloc2_new w _ _
  have hB : Below w.heap.size w ((w.alloc (.cells (WA .u8 12 fun _ => 0) 65)).alloc (.cells (WA .u8 12 fun _ => 0) 65)) := ((Below.refl _ w).alloc (by simp) _).alloc (by simp) _
  have HN := Hid.mk hn
  go_enter Tryz.func22, Tryz.ntmps22
  go_wp2_with fail
  refine wp_gen (fun v => ArrAt v (w.heap.size + 1) .u8 65 12 (fun _ => 0) ∧ ArrAt v w.heap.size .u8 65 12 (fun _ => 0) ∧ Below w.heap.size w v) ⟨g1, g0, hB⟩ ?_
  clear g1 g0 hB
  rintro v0 ⟨g1, g0, hB⟩
  refine wp_region3 (Below w.heap.size w) v0.heap.size
    [((w.heap.size + 1), once (WA .u8 12 (fun _ => 0)) 65 3 (WA .u8 12 (over (fun _ => 0) 4 8 (digN n)))), (w.heap.size, fixd (WA .u8 12 (fun _ => 0)) 65)]
    [kv (.slice (some ⟨(w.heap.size + 1), 4, none⟩) 8 8), kv (.int .u64 n), kv (.string (mkS 8 (digN n))), .val fun _ => True]
    [.none, .none, .none, .base 0 1]
    [some 4, some 5, some 6, some 7]
    [(3, .pointer (some ⟨(w.heap.size + 1), 0, none⟩)), (0, .int .u64 n)]
    [[], [], [.slot 1], [.slot 0, .slot 2, .base 0 0]]
    [.base 0 1, .base 1 0] [4, 5, 6, 7]
    rfl (by kernel_rfl) ⟨rfl, rfl, trivial⟩ (Below.drew hB) (Nat.le_refl _) ⟨⟨g1.lt, obIn g1⟩, ⟨g0.lt, obIn g0⟩, trivial⟩ ⟨⟨(show ((w.heap.size + 1) : Nat) ≠ w.heap.size from by omega), trivial⟩, trivial, trivial⟩ (below_G hB.size ⟨by omega, by omega, trivial⟩)
    ⟨
      -- 0
      (fun Q aq ww own hS hBg fr kn => .inl ⟨trivial, fun K hK => wp_value (exec_slL (v := .pointer (some ⟨(w.heap.size + 1), 0, none⟩)) (u := .int .i64 4) rfl fr.1 rfl (sl12L4 (w.heap.size + 1) ww)) (hK _ _ ⟨Touch.refl _ _, rfl⟩)⟩),
      -- 1
      (fun Q aq ww own hS hBg fr kn => .inl ⟨trivial, fun K hK => wp_value (exec_move rfl fr.2.1) (hK _ _ ⟨Touch.refl _ _, rfl⟩)⟩),
      -- 2
      (fun Q aq ww own hS hBg fr kn => .inl ⟨trivial, fun K hK => stepc enterEight rfl (args1 kn.1) (reight_run n ww HN.out) (fun w' hb => hK _ _ ⟨touch_below hb, rfl⟩)⟩),
      -- 3
      (fun Q aq ww own hS hBg fr kn => .inl ⟨trivial, fun K hK => act_copyS rfl kn.1 kn.2.1 (obAt kn.2.2.1) (fun j _ => digN_b n j) (by omega) (by omega) (fun w2 hg ho => hK _ _ ⟨⟨touch_only ho, obIn hg⟩, trivial⟩)⟩),
      trivial⟩ ?_
  intro vs own v1 hB1 hs1 kn inj
  clear inj g1 g0 hB
  have g1 : ArrAt v1 (w.heap.size + 1) .u8 65 12 (over (fun _ => 0) 4 8 (digN n)) := obAt kn.1
  have g0 : ArrAt v1 w.heap.size .u8 65 12 (fun _ => 0) := obAt kn.2.1
  have hB := hB1
  clear kn hB1 hs1
  simp only [putAll, Act.put, List.setIfInBounds_toArray, List.set_cons_zero, List.set_cons_succ]
  go_wp2_with (first | (refine ld_arr isArr12 g1 (by rfl) ?_) | (refine st_arr isArr12 g0 (by rfl) (by rfl) ?_; intro v4 g4 o4; refine Hid.out ?_))
  refine Hid.mk ?_
  go_wp2_with fail
  exact bodyPost_ret (res_arr Tryz.results22 isArr12 g4 (by rfl)) rfl ⟨rfl, hB.trans (o4.below (Nat.le_refl _))⟩
end Go.Proofs.YtbkbcfimpaolmaaGreat
/-
  Own text. The document's answer for replay: a window in memory; has.
-/
namespace Go.Proofs.YtbkbcfimpaolmaaGreat
open Go.RowKit Go.Proofs
set_option maxRecDepth 100000
/-- A window of the document's answer: block b; what came lies in a row of its own, at B or above. -/
structure WinD (w : World) (B b : Nat) (sz last : Int) (v : Value) (n : Nat) (s : Nat → Int) : Prop where
  blk : w.heap[b]? = some (.cells #[.int .i64 sz, .int .u64 last, v] 80 (0, 0))
  row : w.ownsRow B 31 1 v n (nums .u64 n s)
section
variable {w w' : World} {B b : Nat} {sz last : Int} {v : Value} {n : Nat} {s : Nat → Int}
theorem WinD.lt (h : WinD w B b sz last v n s) : b < w.heap.size := heap_lt h.blk
theorem WinD.c0 (h : WinD w B b sz last v n s) : w.cell? ⟨b, 0, none⟩ = some (.int .i64 sz) := cell_of_row w b 0 _ _ _ h.blk
theorem WinD.c1 (h : WinD w B b sz last v n s) : w.cell? ⟨b, 1, none⟩ = some (.int .u64 last) := cell_of_row w b 1 _ _ _ h.blk
theorem WinD.c2 (h : WinD w B b sz last v n s) : w.cell? ⟨b, 2, none⟩ = some v := cell_of_row w b 2 _ _ _ h.blk
theorem own_view {e : TypeId} {k : IntKind} (h : w.ownsRow B e 1 v n (nums k n s)) : ∃ p cp, v = .slice p n cp ∧ ∀ i, i < n → ∃ g, p = some ⟨g, 0, none⟩ ∧ w.cell? ⟨g, i, none⟩ = some (.int k (s i)) := by
  by_cases hn : 0 < n
  · obtain ⟨g, cp, rfl, _, _, hr⟩ := own_row h hn
    exact ⟨_, _, rfl, fun i hi => ⟨g, rfl, hr.cell i hi⟩⟩
  · rcases h.2 with ⟨rfl, rfl⟩ | ⟨g, cap, cur, rfl, _⟩
    · exact ⟨_, _, rfl, fun i hi => by omega⟩
    · exact ⟨_, _, rfl, fun i hi => by omega⟩
theorem WinD.kept (h : WinD w B b sz last v n s) (hb : Below w.heap.size w w') : WinD w' B b sz last v n s := ⟨(hb.block b h.lt).trans h.blk, own_kept h.row hb⟩
end
/-- Did a counter come? -/
def memb (n : Nat) (s : Nat → Int) (c : Int) : Bool := decide (∃ i, i < n ∧ s i = c)
theorem memb_yes {n : Nat} {s : Nat → Int} {c : Int} {i : Nat} (hi : i < n) (h : s i = c) : memb n s c = true := by
  unfold memb; exact decide_eq_true ⟨i, hi, h⟩
theorem memb_no {n : Nat} {s : Nat → Int} {c : Int} (h : ∀ i, i < n → s i ≠ c) : memb n s c = false := by
  unfold memb; exact decide_eq_false (fun ⟨i, hi, e⟩ => h i hi e)
set_option maxHeartbeats 1000000 in
theorem rhas_run {w : World} {B b : Nat} {sz last : Int} {v : Value} {n : Nat} {s : Nat → Int} (c : Int) (hn : n < 1000000) (hW : WinD w B b sz last v n s) :
    Calls Tryz.prog 66 #[.pointer (some ⟨b, 0, none⟩), .int .u64 c] w fun e w' => e = .returned (.bool (memb n s c)) ∧ w' = w := by
  obtain ⟨p, cp, rfl, hp⟩ := own_view hW.row
  have c2 := hW.c2
  have HP := Hid.mk hp
  have HY := Hid.mk (fun i (hi : i < n) h => memb_yes (s := s) (c := c) hi h)
  have HN := Hid.mk (memb_no (n := n) (s := s) (c := c))
  clear hW hp
  generalize memb n s c = m at *
  go_enter Tryz.func66, Tryz.ntmps66
  go_wp2
  go_loopw [5] (fun i v => ∃ k : Nat, k ≤ n ∧ i = .int .i64 k ∧ Hid (∀ j, j < k → s j ≠ c) ∧ v = w) (fun i _ => n - (intOf i).toNat)
  case atStart => exact ⟨0, by omega, rfl, Hid.mk (fun j h => by omega), rfl⟩
  case round =>
    obtain ⟨k, hk, rfl, HA, rfl⟩ := hrel
    by_cases hlt : k < n
    · obtain ⟨g, rfl, cx⟩ := HP.out k hlt
      by_cases hx : s k = c
      · have hm := HY.out k hlt hx
        rw [hx] at cx
        go_wp2
        go_ret
        exact ⟨by rw [hm]; rfl, rfl⟩
      · have HX : Hid (∀ j, j < k + 1 → s j ≠ c) := Hid.mk (fun j h1 => by by_cases e : j = k; exact e ▸ hx; exact HA.out j (by omega))
        clear HA
        generalize s k = x at *
        go_wp2
        go_roundw
        case rel => exact ⟨k + 1, by omega, by go_num, HX, by first | trivial | rfl⟩
        case measure => simp [intOf]; omega
    · have hm := HN.out (fun i hi => HA.out i (by omega))
      go_wp2
      go_ret
      exact ⟨by rw [hm]; rfl, rfl⟩
end Go.Proofs.YtbkbcfimpaolmaaGreat
/-
  Own text. The document's answer for replay: Fresh.
-/
namespace Go.Proofs.YtbkbcfimpaolmaaGreat
open Go.RowKit Go.Proofs
set_option maxRecDepth 100000
/-- A counter that came and is greater than c by sz or more. -/
def late (n : Nat) (s : Nat → Int) (sz c : Int) : Bool := decide (∃ i, i < n ∧ c < s i ∧ sz ≤ s i - c)
theorem late_yes {n : Nat} {s : Nat → Int} {sz c : Int} {i : Nat} (hi : i < n) (h : c < s i) (h2 : sz ≤ s i - c) : late n s sz c = true := by
  unfold late; exact decide_eq_true ⟨i, hi, h, h2⟩
theorem late_no {n : Nat} {s : Nat → Int} {sz c : Int} (h : ∀ i, i < n → ¬ (c < s i ∧ sz ≤ s i - c)) : late n s sz c = false := by
  unfold late; exact decide_eq_false (fun ⟨i, hi, e⟩ => h i hi e)
def freshD (last sz : Int) (n : Nat) (s : Nat → Int) (c : Int) : Bool := !(decide (c = last) || memb n s c || late n s sz c)
theorem below_drewN {B : Nat} {w w' : World} (h : Below B w w') (n : Nat) : Below B w (w'.drewN n) := ⟨h.os, h.tape, h.output, h.size, h.block⟩
set_option maxHeartbeats 4000000 in
theorem rFresh_run {w : World} {B b : Nat} {sz last : Int} {v : Value} {n : Nat} {s : Nat → Int} (c : Int) (hn : n < 1000000) (hsz : 0 ≤ sz ∧ sz ≤ 8192) (hs : ∀ i, i < n → U64 (s i)) (hc : U64 c) (hW : WinD w B b sz last v n s) :
    Calls Tryz.prog 48 #[.pointer (some ⟨b, 0, none⟩), .int .u64 c] w fun e w' => e = .returned (.bool (freshD last sz n s c)) ∧ Below w.heap.size w w' := by
  have hrun := rhas_run c hn hW
  obtain ⟨p, cp, rfl, hp⟩ := own_view hW.row
  have c0 := hW.c0
  have c1 := hW.c1
  have c2 := hW.c2
  have HP := Hid.mk hp
  have HS := Hid.mk hs
  have HWW := Hid.mk hW
  have hfr : freshD last sz n s c = !(decide (c = last) || memb n s c || late n s sz c) := rfl
  have HY := Hid.mk (fun i (hi : i < n) h h2 => late_yes (s := s) (c := c) (sz := sz) hi h h2)
  have HN := Hid.mk (late_no (n := n) (s := s) (c := c) (sz := sz))
  generalize freshD last sz n s c = F at *
  generalize late n s sz c = L at *
  clear hW hp hs
  unfold U64 at hc
  go_enter Tryz.func48, Tryz.ntmps48
  go_wp2_with fail
  refine hrun.mono ?_
  rintro e v0 ⟨rfl, rfl⟩
  clear hrun
  generalize memb n s c = M at *
  by_cases hl : c = last
  · have hd : decide (c = last) = true := by simpa using hl
    go_wp2_with fail
    go_ret
    exact ⟨by rw [hfr]; simp [hd], Below.refl _ _⟩
  · have hd : decide (c = last) = false := by simpa using hl
    cases M
    · have hB := Below.refl v0.heap.size v0
      clear c0 c1 c2 HP
      have HC := Hid.mk (show F = !L by rw [hfr, hd]; simp)
      clear hfr
      have c1 := HWW.out.c1
      go_wp2_with fail
      simp only [show (c == last) = false by simpa using hl]
      clear c1 hd hl
      go_loopg [6] n (fun gm iv v => ∃ k : Nat, Hid (gm + k = n) ∧ iv = .int .i64 (k : Int) ∧ Hid (∀ j, j < k → ¬ (c < s j ∧ sz ≤ s j - c)) ∧ Below v0.heap.size v0 v)
      case atStart => exact ⟨0, Hid.mk rfl, rfl, Hid.mk (fun j h => by omega), hB⟩
      case round =>
        clear hB
        obtain ⟨k, HK, rfl, HA, hB⟩ := hrel
        have hW := HWW.out.kept hB
        obtain ⟨p', cp', e, hp⟩ := own_view hW.row
        cases e
        have c0 := hW.c0
        have c2 := hW.c2
        clear hW
        have hk : k ≤ n := by have := HK.out; omega
        by_cases hlt : k < n
        · obtain ⟨g, rfl, cx⟩ := hp k hlt
          clear hp
          have hu := HS.out k hlt
          unfold U64 at hu
          by_cases h1 : c < s k
          · by_cases h2 : sz ≤ s k - c
            · have HF := Hid.mk (show F = false by rw [HC.out, HY.out k hlt h1 h2]; rfl)
              clear HA
              generalize s k = x at *
              have d1 : decide (c < x) = true := by simpa using h1
              have d2 : decide (sz ≤ x - c) = true := by simpa using h2
              go_wp2_with fail
              go_quiet (fail)
              go_wp2_with fail
              go_ret
              exact ⟨by rw [HF.out]; rfl, below_drewN hB _⟩
            · have HX : Hid (∀ j, j < k + 1 → ¬ (c < s j ∧ sz ≤ s j - c)) := Hid.mk (fun j h => by by_cases e : j = k; exact e ▸ fun h => h2 h.2; exact HA.out j (by omega))
              clear HA
              generalize s k = x at *
              have d1 : decide (c < x) = true := by simpa using h1
              have d2 : decide (sz ≤ x - c) = false := by simpa using h2
              go_wp2_with fail
              go_quiet (fail)
              go_wp2_with fail
              go_roundg (n - (k + 1))
              case rel => exact ⟨k + 1, Hid.mk (by omega), by go_num, HX, below_drewN hB _⟩
              case measure => have := HK.out; omega
          · have HX : Hid (∀ j, j < k + 1 → ¬ (c < s j ∧ sz ≤ s j - c)) := Hid.mk (fun j h => by by_cases e : j = k; exact e ▸ fun h => h1 h.1; exact HA.out j (by omega))
            clear HA
            generalize s k = x at *
            have d1 : decide (c < x) = false := by simpa using h1
            go_wp2_with fail
            go_quiet (fail)
            go_wp2_with fail
            go_roundg (n - (k + 1))
            case rel => exact ⟨k + 1, Hid.mk (by omega), by go_num, HX, below_drewN hB _⟩
            case measure => have := HK.out; omega
        · have HF := Hid.mk (show F = true by rw [HC.out, HN.out (fun i hi => HA.out i (by omega))]; rfl)
          clear hp
          go_wp2_with fail
          go_ret
          exact ⟨by rw [HF.out]; rfl, hB⟩
    · go_wp2_with fail
      go_ret
      exact ⟨by rw [hfr]; simp, Below.refl _ _⟩
end Go.Proofs.YtbkbcfimpaolmaaGreat
/-
  Own text. append to a row of one's own: the row stays where it is, or lies in new memory.
-/
namespace Go.Proofs.YtbkbcfimpaolmaaGreat
open Go.RowKit Go.Proofs
set_option maxRecDepth 100000
theorem own_mono {w : World} {B C : Nat} {e : TypeId} {v : Value} {n : Nat} {xs : List Value} (h : w.ownsRow B e 1 v n xs) (hC : C ≤ B) : w.ownsRow C e 1 v n xs := by
  refine ⟨h.1, ?_⟩
  rcases h.2 with hn | ⟨g, cap, cur, hv, hB, rest⟩
  · exact .inl hn
  · exact .inr ⟨g, cap, cur, hv, Nat.le_trans hC hB, rest⟩
theorem grown_any {w w' : World} {r : Option Nat} (h : w.grownBy w' none) : w.grownBy w' r := ⟨h.os, h.tape, h.output, h.size, fun k hk _ => h.block k hk (by simp)⟩
theorem ap_fine {ops : Array Oper} {rest : List Oper} {o : Oper} {a : Act} {w : World} {Q : Exit → Act → World → Prop} (hgd : o.guard = none) (s x : Operand) (t e : TypeId) (k : IntKind) (by' : Nat) (ht : Tryz.prog.underlying t = some (.slice e)) (hi : (Tryz.prog.info? e).map (fun i => (i.zero, i.size, i.bytes)) = some (some (.int k 0), 1, by')) (hby : by' ≤ 8)
    (ho : o.op = .call { callee := .builtin .append, args := #[s, x], argTypes := #[t, t] })
    {B n m c : Nat} {f r : Nat → Int} {v : Value} {b off : Nat} (hs : a.eval s = v) (hD : w.ownsRow B e 1 v n (nums k n f)) (hx : a.eval x = .slice (some ⟨b, off, none⟩) m c)
    (hc : ∀ j, j < m → w.cell? ⟨b, off + j, none⟩ = some (.int k (r j))) (hl : n + m < 1000000) (hB : B ≤ w.heap.size)
    (h : ∀ v' w', w'.ownsRow B e 1 v' (n + m) (nums k (n + m) (cat n f r)) → w.grownBy w' v.ownBlock → (∀ q, v'.ownBlock = some q → v.ownBlock = some q ∨ w.heap.size ≤ q) → wpList Tryz.prog ops Q rest (a.put o.dst v') w') : wpList Tryz.prog ops Q (o :: rest) a w := by
  obtain ⟨i0, hi, hz0, hz1, hz2⟩ := info_parts hi
  have hc' : ∀ j u, (nums k m r)[j]? = some u → w.cell? ((⟨b, off, none⟩ : Addr).add j) = some u := fun j u hj => by
    obtain ⟨hj2, rfl⟩ := nums_get hj
    rw [Addr.add_lit]
    exact hc j hj2
  have hM : n + m ≤ maxLen := by unfold maxLen; omega
  have hY : (n + m) * by' ≤ 140737488355328 := by
    have : (n + m) * by' ≤ (n + m) * 8 := Nat.mul_le_mul_left _ hby
    omega
  rcases hD.2 with ⟨rfl, rfl⟩ | ⟨g, cap, cur, rfl, hb, hg, hcap, hm, hsz, htk⟩
  · refine wpList_append_own w hgd s x t ho w.heap.size e i0 (.int k 0) 1 by' ht hi hz0 hz1 hz2 rfl (by decide) _ 0 [] hs (World.ownsRow_nil w _ e 1) ⟨b, off, none⟩ m c (nums k m r) hx (by rw [nums_len]; omega) hc' nums_one hM hY (Nat.le_refl _) ?_
    intro v' w1 hown hgrow _
    have e1 : nums k (0 + m) (cat 0 f r) = [] ++ nums k m r := by rw [← nums_cat]; rfl
    refine h v' w1 (by rw [e1]; exact own_mono hown hB) hgrow (fun q hq => .inr (own_base hown q hq))
  · by_cases hroom : n + m ≤ cap
    · refine wpList_plain hgd fun K hK => ?_
      obtain ⟨v', w', hrun, h1, h2, _⟩ := run_append_own (P := Tryz.prog) w B t o.type e i0 (.int k 0) 1 by' ht hi hz0 hz1 hz2 rfl (by decide) _ n _ hD ⟨b, off, none⟩ m c (nums k m r) (by rw [nums_len]; omega) hc' nums_one hM hY hB
      have h3 := run_append_room (P := Tryz.prog) w t o.type e i0 ht hi g n cap cur hg ⟨b, off, none⟩ m c (nums k m r) (by rw [nums_len, hz1]; omega) hc' nums_one hroom (by rw [nums_len, hz1, hsz]; omega)
      have h4 := hrun.symm.trans h3
      injection h4 with e1 e2
      unfold Oper.wp
      simp [execOp, ho, resolve, invoke, builtin, hs, hx, hrun, Result.andThen]
      rw [nums_cat] at h1
      refine hK _ _ (h v' w' h1 h2 (fun q hq => .inl ?_))
      rw [e1] at hq
      exact hq
    · refine wpList_append_grows w hgd s x t ho e i0 (.int k 0) 1 by' ht hi hz0 hz1 hz2 rfl (by decide) (some ⟨g, 0, none⟩) n cap (nums k n f) hs (fun h => by cases h) (by rw [nums_len]; omega) ?_ ⟨b, off, none⟩ m c (nums k m r) hx (by rw [nums_len]; omega) hc' nums_one (by omega) hM hY ?_
      · intro bb hb2 j u hj
        simp only [Option.some.injEq] at hb2
        subst hb2
        exact World.ownsRow.cells hD (g := g) rfl j u hj
      · intro v' w1 hown hgrow
        rw [nums_cat] at hown
        exact h v' w1 (own_mono hown hB) (grown_any hgrow) (fun q hq => .inr (own_base hown q hq))
end Go.Proofs.YtbkbcfimpaolmaaGreat
/-
  Own text. The document's answer for replay: Take.
-/
namespace Go.Proofs.YtbkbcfimpaolmaaGreat
open Go.RowKit Go.Proofs
set_option maxRecDepth 100000
theorem infoU64 : (Tryz.prog.info? 31).map (fun i => (i.zero, i.size, i.bytes)) = some (some (.int .u64 0), 1, 8) := by kernel_rfl
theorem own_only {w w' : World} {B b : Nat} {e : TypeId} {v : Value} {n : Nat} {xs : List Value} (h : w.ownsRow B e 1 v n xs) (o : Only b w w') (hb : b < B) : w'.ownsRow B e 1 v n xs := by
  refine ⟨h.1, ?_⟩
  rcases h.2 with hn | ⟨g, cap, cur, hv, hB, hg, rest⟩
  · exact .inl hn
  · exact .inr ⟨g, cap, cur, hv, hB, (o.block g (by omega)).trans hg, rest⟩
theorem winD_set {w : World} {B b n : Nat} {sz last : Int} {v v' : Value} {s : Nat → Int} (hb : w.heap[b]? = some (.cells #[.int .i64 sz, .int .u64 last, v] 80 (0, 0)))
    (hr : w.ownsRow B 31 1 v' n (nums .u64 n s)) (hB : b < B) : WinD (w.setCell ⟨b, 2, none⟩ v') B b sz last v' n s := by
  refine ⟨?_, own_only hr only_set hB⟩
  have h2 := heap_setCell_same w b 2 _ _ v' hb
  simpa using h2
/-- What Take does to memory: the window's block and the row of what came. -/
def TakeT (b : Nat) (v : Value) (k : Nat) : Prop := k = b ∨ v.ownBlock = some k
set_option maxHeartbeats 4000000 in
theorem rTake_no {w : World} {B b : Nat} {sz last : Int} {v : Value} {n : Nat} {s : Nat → Int} (c : Int) (hn : n < 1000000) (hsz : 0 ≤ sz ∧ sz ≤ 8192) (hs : ∀ i, i < n → U64 (s i)) (hc : U64 c) (hW : WinD w B b sz last v n s) (hf : freshD last sz n s c = false) :
    Calls Tryz.prog 50 #[.pointer (some ⟨b, 0, none⟩), .int .u64 c] w fun e w' => e = .returned (.bool false) ∧ Below w.heap.size w w' := by
  have hrun := rFresh_run c hn hsz hs hc hW
  rw [hf] at hrun
  go_enter Tryz.func50, Tryz.ntmps50
  go_wp2_with fail
  refine hrun.mono ?_
  rintro e v0 ⟨rfl, hb⟩
  go_wp2_with fail
  go_ret
  exact ⟨rfl, hb⟩
set_option maxHeartbeats 4000000 in
theorem rTake_yes {w : World} {B b : Nat} {sz last : Int} {v : Value} {n : Nat} {s : Nat → Int} (c : Int) (hn : n + 1 < 1000000) (hsz : 0 ≤ sz ∧ sz ≤ 8192) (hs : ∀ i, i < n → U64 (s i)) (hc : U64 c) (hW : WinD w B b sz last v n s) (hbB : b < B) (hB : B ≤ w.heap.size) (hf : freshD last sz n s c = true) :
    Calls Tryz.prog 50 #[.pointer (some ⟨b, 0, none⟩), .int .u64 c] w fun e w' => e = .returned (.bool true) ∧ ∃ v', WinD w' B b sz last v' (n + 1) (cat n s (fun _ => c)) ∧ Touch (TakeT b v) w w' ∧ ∀ q, v'.ownBlock = some q → v.ownBlock = some q ∨ w.heap.size ≤ q := by
  have hrun := rFresh_run c (by omega) hsz hs hc hW
  rw [hf] at hrun
  go_enter Tryz.func50, Tryz.ntmps50
  go_wp2_with fail
  refine hrun.mono ?_
  rintro e v0 ⟨rfl, hb⟩
  clear hrun
  have hW0 := hW.kept hb
  have c2 := hW0.c2
  have hb1 := (Below.refl v0.heap.size v0).alloc (Nat.le_refl _) (.cells #[.int .u64 c] 31)
  have hW1 := hW0.kept hb1
  have hsz0 := hb.size
  go_wp2_with (at_builtin; refine ap_fine rfl _ _ 78 31 .u64 8 Tryz.underlying78 infoU64 (by decide) (by rfl) (n := n) (m := 1) (by rfl) hW1.row (by rfl) (r := fun _ => c) (fun j hj => by obtain rfl : j = 0 := (by omega); exact cell_of_row _ _ 0 _ _ _ (heap_alloc_new v0 _)) (by omega) (by simp; omega) ?_; intro va v2 h2 hg hq; refine Hid.out ?_)
  obtain ⟨p2, cp2, rfl, -⟩ := own_view h2
  have hlt := hW0.lt
  have hbv : v2.heap[b]? = some (.cells #[.int .i64 sz, .int .u64 last, v] 80 (0, 0)) := (hg.block b (by simp; omega) (fun e => by have := (own_base hW.row b e.symm); omega)).trans hW1.blk
  have c2 : v2.cell? ⟨b, 2, none⟩ = some v := cell_of_row v2 b 2 _ _ _ hbv
  have f2 := frozen_of_row v2 b 2 _ _ hbv
  have HWN := Hid.mk (winD_set hbv h2 hbB)
  have HT : Hid (Touch (TakeT b v) w (v2.setCell ⟨b, 2, none⟩ (.slice p2 (n + 1) cp2))) := Hid.mk (by
    have o := only_set (w := v2) (g := b) (i := 2) (v := Value.slice p2 (n + 1) cp2)
    refine ⟨o.os.trans (hg.os.trans (hb1.os.trans hb.os)), o.tape.trans (hg.tape.trans (hb1.tape.trans hb.tape)), o.output.trans (hg.output.trans (hb1.output.trans hb.output)), by rw [o.size]; exact Nat.le_trans hb.size (Nat.le_trans hb1.size hg.size), fun k hk hn => ?_⟩
    have hkb : k ≠ b := fun e => hn (.inl e)
    have hkv : some k ≠ v.ownBlock := fun e => hn (.inr e.symm)
    exact (o.block k hkb).trans ((hg.block k (by have := hb1.size; omega) hkv).trans ((hb1.block k (by omega)).trans (hb.block k hk))))
  have HQ : Hid (∀ q, (Value.slice p2 (n + 1) cp2).ownBlock = some q → v.ownBlock = some q ∨ w.heap.size ≤ q) := Hid.mk (fun q e => by
    rcases hq q e with h | h
    · exact .inl h
    · have := hb1.size
      exact .inr (by omega))
  clear hW hW0 hW1 hg hq h2 hb1 hbv
  refine Hid.mk ?_
  go_wp2_with fail
  go_ret
  exact ⟨rfl, _, HWN.out, HT.out, HQ.out⟩
end Go.Proofs.YtbkbcfimpaolmaaGreat
/-
  Own text. The document's answer for replay: Top and Clamp.
-/
namespace Go.Proofs.YtbkbcfimpaolmaaGreat
open Go.RowKit Go.Proofs
set_option maxRecDepth 100000
/-- One more than the greatest of the first n. -/
def topF (s : Nat → Int) : Nat → Int
  | 0 => 0
  | n + 1 => if topF s n < s n + 1 then s n + 1 else topF s n
theorem topF_succ (s : Nat → Int) (n : Nat) : topF s (n + 1) = if topF s n < s n + 1 then s n + 1 else topF s n := rfl
theorem topF_range {s : Nat → Int} : ∀ {n : Nat}, (∀ i, i < n → 0 ≤ s i ∧ s i < 18446744073709551615) → 0 ≤ topF s n ∧ topF s n < 18446744073709551616
  | 0, _ => by simp [topF]
  | n + 1, h => by
    have h1 := topF_range (n := n) (fun i hi => h i (by omega))
    have h2 := h n (by omega)
    unfold topF
    split <;> omega
theorem topF_le {s : Nat → Int} : ∀ {n i : Nat}, i < n → s i + 1 ≤ topF s n
  | n + 1, i, h => by
    unfold topF
    by_cases e : i = n
    · subst e; split <;> omega
    · have := topF_le (s := s) (n := n) (i := i) (by omega)
      split <;> omega
theorem topF_some {s : Nat → Int} : ∀ {n : Nat}, 0 < n → (∀ i, i < n → 0 ≤ s i) → ∃ i, i < n ∧ topF s n = s i + 1
  | n + 1, _, h => by
    unfold topF
    by_cases e : topF s n < s n + 1
    · rw [if_pos e]; exact ⟨n, by omega, rfl⟩
    · rw [if_neg e]
      by_cases hn : 0 < n
      · obtain ⟨i, hi, he⟩ := topF_some (s := s) hn (fun i hi => h i (by omega))
        exact ⟨i, by omega, he⟩
      · obtain rfl : n = 0 := by omega
        have := h 0 (by omega)
        simp only [topF] at e ⊢
        omega
theorem topF_congr {s t : Nat → Int} : ∀ {n : Nat}, (∀ i, i < n → s i = t i) → topF s n = topF t n
  | 0, _ => rfl
  | n + 1, h => by
    unfold topF
    rw [topF_congr (n := n) (fun i hi => h i (by omega)), h n (by omega)]
set_option maxHeartbeats 4000000 in
theorem rTop_run {w : World} {B b : Nat} {sz last : Int} {v : Value} {n : Nat} {s : Nat → Int} (hn : n < 1000000) (hs : ∀ i, i < n → 0 ≤ s i ∧ s i < 18446744073709551615) (hW : WinD w B b sz last v n s) :
    Calls Tryz.prog 51 #[.pointer (some ⟨b, 0, none⟩)] w fun e w' => e = .returned (.int .u64 (topF s n)) ∧ w' = w := by
  obtain ⟨p, cp, rfl, hp⟩ := own_view hW.row
  have c2 := hW.c2
  have HP := Hid.mk hp
  have HS := Hid.mk hs
  clear hW hp hs
  go_enter Tryz.func51, Tryz.ntmps51
  go_wp2
  go_loopw [3, 4] (fun t i v => ∃ k : Nat, k ≤ n ∧ i = .int .i64 k ∧ t = .int .u64 (topF s k) ∧ v = w) (fun _ i _ => n - (intOf i).toNat)
  case atStart => exact ⟨0, by omega, rfl, rfl, rfl⟩
  case round =>
    obtain ⟨k, hk, rfl, rfl, rfl⟩ := hrel
    by_cases hlt : k < n
    · obtain ⟨g, rfl, cx⟩ := HP.out k hlt
      have hu := HS.out k hlt
      have ht := topF_range (s := s) (n := k) (fun i hi => HS.out i (by omega))
      by_cases hx : topF s k < s k + 1
      · have HX := Hid.mk (show topF s (k + 1) = s k + 1 by rw [topF_succ, if_pos hx])
        generalize topF s k = t at *
        generalize s k = x at *
        go_wp2
        go_roundw
        case rel => exact ⟨k + 1, by omega, by go_num, by rw [HX.out], by first | trivial | rfl⟩
        case measure => simp [intOf]; omega
      · have HX := Hid.mk (show topF s (k + 1) = topF s k by rw [topF_succ, if_neg hx])
        generalize topF s k = t at *
        generalize s k = x at *
        go_wp2
        go_roundw
        case rel => exact ⟨k + 1, by omega, by go_num, by rw [HX.out], by first | trivial | rfl⟩
        case measure => simp [intOf]; omega
    · obtain rfl : k = n := by omega
      go_wp2
      go_ret
      exact ⟨rfl, rfl⟩
def clampF (x : Int) : Int := if x < 1 then 1 else if 8192 < x then 8192 else x
theorem clampF_range (x : Int) : 1 ≤ clampF x ∧ clampF x ≤ 8192 := by
  unfold clampF
  split
  · omega
  · split <;> omega
end Go.Proofs.YtbkbcfimpaolmaaGreat
/-
  Own text. The document's answer for replay: Came; the numbers of an insertion.
-/
namespace Go.Proofs.YtbkbcfimpaolmaaGreat
open Go.RowKit Go.Proofs
set_option maxRecDepth 100000
/-- f, of length m: rising, just those of the first k that are not late. -/
def CameI (s : Nat → Int) (sz T : Int) (k m : Nat) (f : Nat → Int) : Prop := m ≤ k ∧ (∀ i j, i < j → j < m → f i < f j) ∧ ∀ x, (∃ i, i < m ∧ f i = x) ↔ ∃ i, i < k ∧ s i = x ∧ T - 1 - x < sz
def insF (at' : Nat) (f : Nat → Int) (x : Int) : Nat → Int := cat (at' + 1) (cat at' f (fun _ => x)) (fun j => f (at' + j))
theorem insF_lt {p : Nat} {f : Nat → Int} {x : Int} {i : Nat} (h : i < p) : insF p f x i = f i := by
  unfold insF cat
  rw [if_pos (by omega), if_pos h]
theorem insF_at {p : Nat} {f : Nat → Int} {x : Int} : insF p f x p = x := by
  unfold insF cat
  rw [if_pos (by omega), if_neg (by omega)]
theorem insF_gt {p : Nat} {f : Nat → Int} {x : Int} {i : Nat} (h : p < i) : insF p f x i = f (i - 1) := by
  unfold insF cat
  rw [if_neg (by omega)]
  show f (p + (i - (p + 1))) = _
  rw [show p + (i - (p + 1)) = i - 1 by omega]
theorem came_start (s : Nat → Int) (sz T : Int) (f : Nat → Int) : CameI s sz T 0 0 f := ⟨Nat.le_refl _, fun _ _ _ h => by omega, fun x => ⟨fun ⟨i, h, _⟩ => by omega, fun ⟨i, h, _⟩ => by omega⟩⟩
theorem came_skip {s : Nat → Int} {sz T : Int} {k m : Nat} {f : Nat → Int} (h : CameI s sz T k m f) (hx : sz ≤ T - 1 - s k) : CameI s sz T (k + 1) m f := by
  refine ⟨by have := h.1; omega, h.2.1, fun x => (h.2.2 x).trans ⟨fun ⟨i, h1, h2⟩ => ⟨i, by omega, h2⟩, fun ⟨i, h1, h2, h3⟩ => ?_⟩⟩
  by_cases e : i = k
  · subst e; subst h2; omega
  · exact ⟨i, by omega, h2, h3⟩
theorem came_put {s : Nat → Int} {sz T : Int} {k m p : Nat} {f : Nat → Int} (h : CameI s sz T k m f) (hx : T - 1 - s k < sz) (hd : ∀ i, i < k → s i ≠ s k) (hp : p ≤ m) (hl : ∀ i, i < p → f i < s k) (hr : p < m → s k ≤ f p) :
    CameI s sz T (k + 1) (m + 1) (insF p f (s k)) := by
  have hne : ∀ i, i < m → f i ≠ s k := fun i hi e => by
    obtain ⟨j, hj, e1, _⟩ := (h.2.2 (s k)).1 ⟨i, hi, e⟩
    exact hd j hj e1
  have hgt : ∀ i, p ≤ i → i < m → s k < f i := fun i h1 h2 => by
    have a1 := hr (by omega)
    have a2 := hne i h2
    by_cases e : i = p
    · subst e; omega
    · have a3 := h.2.1 p i (by omega) h2
      omega
  refine ⟨by have := h.1; omega, fun i j hij hj => ?_, fun x => ⟨?_, ?_⟩⟩
  · by_cases h1 : i < p
    · rw [insF_lt h1]
      by_cases h2 : j < p
      · rw [insF_lt h2]; exact h.2.1 i j hij (by omega)
      · by_cases h3 : j = p
        · subst h3; rw [insF_at]; exact hl i h1
        · rw [insF_gt (by omega)]
          have a1 := hl i h1
          have a2 := hgt (j - 1) (by omega) (by omega)
          omega
    · by_cases h2 : i = p
      · subst h2
        rw [insF_at, insF_gt hij]
        exact hgt (j - 1) (by omega) (by omega)
      · rw [insF_gt (by omega), insF_gt (by omega)]
        exact h.2.1 (i - 1) (j - 1) (by omega) (by omega)
  · rintro ⟨i, hi, rfl⟩
    by_cases h1 : i < p
    · rw [insF_lt h1]
      obtain ⟨j, hj, e1, e2⟩ := (h.2.2 (f i)).1 ⟨i, by omega, rfl⟩
      exact ⟨j, by omega, e1, e2⟩
    · by_cases h2 : i = p
      · subst h2
        rw [insF_at]
        exact ⟨k, by omega, rfl, hx⟩
      · rw [insF_gt (by omega)]
        obtain ⟨j, hj, e1, e2⟩ := (h.2.2 (f (i - 1))).1 ⟨i - 1, by omega, rfl⟩
        exact ⟨j, by omega, e1, e2⟩
  · rintro ⟨j, hj, e1, e2⟩
    by_cases e : j = k
    · subst e
      exact ⟨p, by omega, by rw [insF_at]; exact e1⟩
    · obtain ⟨i, hi, e3⟩ := (h.2.2 x).2 ⟨j, by omega, e1, e2⟩
      by_cases h1 : i < p
      · exact ⟨i, by omega, by rw [insF_lt h1]; exact e3⟩
      · exact ⟨i + 1, by omega, by rw [insF_gt (by omega)]; exact e3⟩
/-- Two rising rows of the same numbers are one. -/
theorem rising_same : ∀ {m m' : Nat} {f g : Nat → Int}, (∀ i j, i < j → j < m → f i < f j) → (∀ i j, i < j → j < m' → g i < g j) → (∀ x, (∃ i, i < m ∧ f i = x) ↔ ∃ i, i < m' ∧ g i = x) → m = m' ∧ ∀ i, i < m → f i = g i := by
  intro m
  induction m with
  | zero =>
    intro m' f g _ _ h
    refine ⟨?_, fun i hi => by omega⟩
    by_cases e : 0 < m'
    · obtain ⟨i, hi, _⟩ := (h (g 0)).2 ⟨0, e, rfl⟩
      omega
    · omega
  | succ m ih =>
    intro m' f g hf hg h
    have hm' : 0 < m' := by
      obtain ⟨i, hi, _⟩ := (h (f m)).1 ⟨m, by omega, rfl⟩
      omega
    obtain ⟨q, rfl⟩ : ∃ q, m' = q + 1 := ⟨m' - 1, by omega⟩
    have htop : f m = g q := by
      obtain ⟨i, hi, e1⟩ := (h (f m)).1 ⟨m, by omega, rfl⟩
      obtain ⟨j, hj, e2⟩ := (h (g q)).2 ⟨q, by omega, rfl⟩
      have a1 : g i ≤ g q := by
        by_cases e : i = q
        · subst e; omega
        · have := hg i q (by omega) (by omega); omega
      have a2 : f j ≤ f m := by
        by_cases e : j = m
        · subst e; omega
        · have := hf j m (by omega) (by omega); omega
      omega
    have := ih (m' := q) (f := f) (g := g) (fun i j h1 h2 => hf i j h1 (by omega)) (fun i j h1 h2 => hg i j h1 (by omega)) (fun x => ⟨?_, ?_⟩)
    · refine ⟨by omega, fun i hi => ?_⟩
      by_cases e : i = m
      · subst e; rw [htop, this.1]
      · exact this.2 i (by omega)
    · rintro ⟨i, hi, rfl⟩
      obtain ⟨j, hj, e⟩ := (h (f i)).1 ⟨i, by omega, rfl⟩
      refine ⟨j, ?_, e⟩
      by_cases e2 : j = q
      · subst e2
        have := hf i m hi (by omega)
        omega
      · omega
    · rintro ⟨i, hi, rfl⟩
      obtain ⟨j, hj, e⟩ := (h (g i)).2 ⟨i, by omega, rfl⟩
      refine ⟨j, ?_, e⟩
      by_cases e2 : j = m
      · subst e2
        have := hg i q hi (by omega)
        omega
      · omega
end Go.Proofs.YtbkbcfimpaolmaaGreat
/-
  Own text. The document's answer for replay: Came.
-/
namespace Go.Proofs.YtbkbcfimpaolmaaGreat
open Go.RowKit Go.Proofs
set_option maxRecDepth 100000
theorem cat_ins (q : Nat) (f0 f : Nat → Int) (x : Int) : cat (0 + q + 1) (cat (0 + q) (cat 0 f0 f) (fun _ => x)) (fun j => f (q + j)) = insF q f x := by
  funext i
  simp [insF, cat]
theorem cat_ins0 (f0 f : Nat → Int) (x : Int) : ∀ i, i < 0 + 1 → cat 0 f0 (fun _ => x) i = insF 0 f x i := fun i hi => by
  obtain rfl : i = 0 := by omega
  rw [insF_at]
  simp [cat]
end Go.Proofs.YtbkbcfimpaolmaaGreat
/-
  Own text. What the laws of replay want of the program's windows (of numbers of 64 bits), whatever they are made of.
-/
namespace Go.Proofs.YtbkbcfimpaolmaaGreat
open Go.RowKit Go.Proofs
set_option maxRecDepth 100000
/-- Numbers below last, none twice. -/
def Nums (last : Int) (n : Nat) (s : Nat → Int) : Prop := (∀ i, i < n → 0 ≤ s i ∧ s i < last) ∧ ∀ i j, i < j → j < n → s i ≠ s j
def L64 : Int := 18446744073709551615
theorem Nums.nil (last : Int) (s : Nat → Int) : Nums last 0 s := ⟨fun i h => by omega, fun i j _ h => by omega⟩
theorem fresh_iff {last sz : Int} {n : Nat} {s : Nat → Int} {c : Int} : freshD last sz n s c = true ↔ c ≠ last ∧ (∀ i, i < n → s i ≠ c) ∧ ∀ i, i < n → ¬ (c < s i ∧ sz ≤ s i - c) := by
  unfold freshD memb late
  simp only [Bool.not_eq_true', Bool.or_eq_false_iff, decide_eq_false_iff_not, not_exists, not_and]
  constructor
  · rintro ⟨⟨h1, h2⟩, h3⟩
    exact ⟨h1, h2, h3⟩
  · rintro ⟨h1, h2, h3⟩
    exact ⟨⟨h1, h2⟩, h3⟩
/-- A counter that is fresh joins the others. -/
theorem Nums.take {last sz : Int} {n : Nat} {s : Nat → Int} {c : Int} (h : Nums last n s) (hc : 0 ≤ c) (hl : c ≤ last) (hf : freshD last sz n s c = true) : Nums last (n + 1) (cat n s (fun _ => c)) := by
  obtain ⟨h1, h2, _⟩ := fresh_iff.1 hf
  refine ⟨fun i hi => ?_, fun i j hij hj => ?_⟩
  · unfold cat
    split
    · rename_i hin; exact h.1 i hin
    · show 0 ≤ c ∧ c < last
      exact ⟨hc, by omega⟩
  · unfold cat
    rw [if_pos (by omega)]
    split
    · rename_i hjn; exact h.2 i j hij hjn
    · exact h2 i (by omega)
section
variable {Win : World → Nat → Int → Nat → (Nat → Int) → (Nat → Prop) → Prop} {w w' : World} {b n : Nat} {sz : Int} {s : Nat → Int} {S : Nat → Prop}
end
end Go.Proofs.YtbkbcfimpaolmaaGreat
/-
  Own text. The words of a window of the program: a bit is set just for those counters of the words that are remembered that came.
-/
namespace Go.Proofs.YtbkbcfimpaolmaaGreat
open Go.RowKit Go.Proofs
set_option maxRecDepth 100000
/-- How many words a window of size sz has. -/
def wK (sz : Int) : Nat := (sz.toNat + 62) / 64 + 1
theorem wK_pos (sz : Int) : 0 < wK sz := by unfold wK; omega
theorem wK_le {sz : Int} (h : sz ≤ 8192) : wK sz ≤ 129 := by unfold wK; omega
def bt (x : Int) (i : Nat) : Bool := x.toNat.testBit i
/-- Of the words up to the W-th, as far as they are remembered, just the bits of what came are set. -/
def Bts (K W n : Nat) (s f : Nat → Int) : Prop := ∀ x : Nat, x / 64 ≤ W → W < x / 64 + K → bt (f (x / 64 % K)) (x % 64) = memb n s (x : Int)
theorem bt_zero (i : Nat) : bt 0 i = false := by unfold bt; simp
theorem memb_iff {n : Nat} {s : Nat → Int} {c : Int} : memb n s c = true ↔ ∃ i, i < n ∧ s i = c := by unfold memb; simp
theorem memb_cat (n : Nat) (s : Nat → Int) (c x : Int) : memb (n + 1) (cat n s (fun _ => c)) x = (memb n s x || decide (c = x)) := by
  rw [Bool.eq_iff_iff]
  simp only [Bool.or_eq_true, decide_eq_true_eq, memb_iff]
  constructor
  · rintro ⟨i, hi, h⟩
    unfold cat at h
    by_cases e : i < n
    · rw [if_pos e] at h; exact .inl ⟨i, e, h⟩
    · rw [if_neg e] at h; exact .inr h
  · rintro (⟨i, hi, h⟩ | h)
    · exact ⟨i, by omega, by unfold cat; rw [if_pos hi]; exact h⟩
    · exact ⟨n, by omega, by unfold cat; rw [if_neg (by omega)]; exact h⟩
/-- Two words less than a round apart lie at places of their own. -/
theorem mod_apart {a b K : Nat} (h : a < b) (h2 : b < a + K) : a % K ≠ b % K := fun e => by
  have h1 : (b - a) % K = 0 := by
    have := Nat.sub_mod_eq_zero_of_mod_eq (m := b) (n := a) (k := K) e.symm
    exact this
  rw [Nat.mod_eq_of_lt (by omega)] at h1
  omega
theorem bts_step {K W n : Nat} {s f : Nat → Int} (h : Bts K W n s f) (hs : ∀ i, i < n → s i < 64 * ((W : Int) + 1)) : Bts K (W + 1) n s (upd f ((W + 1) % K) 0) := by
  intro x h1 h2
  by_cases e : x / 64 = W + 1
  · unfold upd
    rw [e, if_pos rfl, bt_zero]
    refine (memb_no fun i hi => ?_).symm
    have := hs i hi
    omega
  · have h3 := mod_apart (a := x / 64) (b := W + 1) (K := K) (by omega) h2
    unfold upd
    rw [if_neg h3]
    exact h x (by omega) (by omega)
theorem bts_all {K W n : Nat} {s f : Nat → Int} (hs : ∀ i, i < n → s i / 64 + K ≤ W) (hf : ∀ j, j < K → f j = 0) : Bts K W n s f := by
  intro x h1 h2
  rw [hf _ (Nat.mod_lt _ (by omega)), bt_zero]
  refine (memb_no fun i hi => ?_).symm
  have := hs i hi
  omega
theorem bt_put (a i j : Nat) : bt ((a ||| 2 ^ i : Nat) : Int) j = (bt (a : Int) j || decide (i = j)) := by
  unfold bt
  simp only [Int.toNat_natCast, Nat.testBit_or, Nat.testBit_two_pow]
theorem bts_put {K W n : Nat} {s f : Nat → Int} (h : Bts K W n s f) (c a : Nat) (h1 : c / 64 ≤ W) (h2 : W < c / 64 + K) (ha : f (c / 64 % K) = (a : Int)) :
    Bts K W (n + 1) (cat n s (fun _ => (c : Int))) (upd f (c / 64 % K) ((a ||| 2 ^ (c % 64) : Nat) : Int)) := by
  intro x k1 k2
  rw [memb_cat, ← h x k1 k2]
  by_cases e : x / 64 = c / 64
  · unfold upd
    rw [e, if_pos rfl, bt_put, ha]
    congr 1
    by_cases e2 : x = c
    · subst e2; simp
    · have e3 : ¬ (c % 64 = x % 64) := by omega
      have e4 : ¬ ((c : Int) = (x : Int)) := by omega
      simp [e3, e4]
  · have h3 : x / 64 % K ≠ c / 64 % K := by
      by_cases e1 : x / 64 < c / 64
      · exact mod_apart e1 (by omega)
      · exact fun e2 => mod_apart (a := c / 64) (b := x / 64) (K := K) (by omega) (by omega) e2.symm
    have e4 : ¬ ((c : Int) = (x : Int)) := by omega
    unfold upd
    rw [if_neg h3]
    simp [e4]
/-- A counter of the window lies in words that are remembered. -/
theorem word_in {sz : Int} {T c : Nat} (hc : c < T) (h : (T : Int) ≤ c + sz) : c / 64 ≤ (T - 1) / 64 ∧ (T - 1) / 64 < c / 64 + wK sz := by
  unfold wK
  omega
/-- The words of a window, whose top is T. -/
structure Words (sz : Int) (T n : Nat) (s f : Nat → Int) : Prop where
  u : ∀ j, j < wK sz → U64 (f j)
  zero : T = 0 → ∀ j, j < wK sz → f j = 0
  bits : 0 < T → Bts (wK sz) ((T - 1) / 64) n s f
theorem Words.has {sz : Int} {T n : Nat} {s f : Nat → Int} (h : Words sz T n s f) {c : Nat} (hc : c < T) (hl : (T : Int) ≤ c + sz) : bt (f (c / 64 % wK sz)) (c % 64) = memb n s (c : Int) :=
  h.bits (by omega) c (word_in hc hl).1 (word_in hc hl).2
theorem Words.nil (sz : Int) (s : Nat → Int) : Words sz 0 0 s (fun _ => 0) := ⟨fun j _ => by unfold U64; omega, fun _ _ _ => rfl, fun h => by omega⟩
theorem or_u64 {x : Int} (hx : U64 x) (i : Nat) (hi : i < 64) : U64 ((x.toNat ||| 2 ^ i : Nat) : Int) := by
  unfold U64 at *
  have h1 : 2 ^ i < 2 ^ 64 := Nat.pow_lt_pow_right (by omega) hi
  have := Nat.or_lt_two_pow (x := x.toNat) (y := 2 ^ i) (n := 64) (by omega) h1
  omega
/-- A counter joins, whose word is there. -/
theorem Words.put {sz : Int} {n c W : Nat} {s f : Nat → Int} (hu : ∀ j, j < wK sz → U64 (f j)) (h : Bts (wK sz) W n s f) (h1 : c / 64 ≤ W) (h2 : W < c / 64 + wK sz) {T : Nat} (hT : 0 < T) (hW : W = (T - 1) / 64) :
    Words sz T (n + 1) (cat n s (fun _ => (c : Int))) (upd f (c / 64 % wK sz) (((f (c / 64 % wK sz)).toNat ||| 2 ^ (c % 64) : Nat) : Int)) := by
  have hp := hu (c / 64 % wK sz) (Nat.mod_lt _ (wK_pos sz))
  refine ⟨fun j hj => ?_, fun e => by omega, fun _ => ?_⟩
  · unfold upd
    split
    · exact or_u64 hp _ (by omega)
    · exact hu j hj
  · rw [← hW]
    exact bts_put h c _ h1 h2 (by unfold U64 at hp; omega)
/-- The least counter that is remembered. -/
def lowN (sz : Int) (T : Nat) : Nat := T - sz.toNat
/-- The tops. -/
theorem topF_cat {s : Nat → Int} {n : Nat} (c : Int) : topF (cat n s (fun _ => c)) (n + 1) = if topF s n < c + 1 then c + 1 else topF s n := by
  have e1 : topF (cat n s (fun _ => c)) n = topF s n := topF_congr (fun i hi => by unfold cat; rw [if_pos hi])
  have e2 : cat n s (fun _ => c) n = c := by unfold cat; rw [if_neg (by omega)]
  rw [topF_succ, e1, e2]
theorem topF_nonneg {s : Nat → Int} : ∀ {n : Nat}, 0 ≤ topF s n
  | 0 => by simp [topF]
  | n + 1 => by
    have := topF_nonneg (s := s) (n := n)
    unfold topF
    split <;> omega
theorem topF_bound {s : Nat → Int} {M : Int} (hM : 0 ≤ M) : ∀ {n : Nat}, (∀ i, i < n → s i < M) → topF s n ≤ M
  | 0, _ => by simp [topF]; exact hM
  | n + 1, h => by
    have h1 := topF_bound (s := s) hM (n := n) (fun i hi => h i (by omega))
    have h2 := h n (by omega)
    unfold topF
    split <;> omega
/-- A counter at the top or above it is fresh. -/
theorem fresh_top {last sz : Int} {n : Nat} {s : Nat → Int} {c : Int} (h : topF s n ≤ c) : freshD last sz n s c = !decide (c = last) := by
  have h1 : memb n s c = false := memb_no fun i hi e => by have := topF_le (s := s) hi; omega
  have h2 : late n s sz c = false := late_no fun i hi e => by have := topF_le (s := s) hi; omega
  unfold freshD
  rw [h1, h2]
  simp
/-- One that is too late is not. -/
theorem fresh_late {last sz : Int} {n : Nat} {s : Nat → Int} {c : Int} (hs : ∀ i, i < n → 0 ≤ s i) (h0 : 0 ≤ c) (h1 : 1 ≤ sz) (h : c + sz < topF s n) : freshD last sz n s c = false := by
  have hn : 0 < n := by
    by_cases e : n = 0
    · subst e; simp [topF] at h; omega
    · omega
  obtain ⟨i, hi, e⟩ := topF_some hn hs
  have h2 : late n s sz c = true := late_yes (i := i) hi (by omega) (by omega)
  unfold freshD
  rw [h2]
  simp
/-- One of the window, if it did not come. -/
theorem fresh_mid {last sz : Int} {n : Nat} {s : Nat → Int} {c : Int} (h : topF s n ≤ c + sz) : freshD last sz n s c = (!decide (c = last) && !memb n s c) := by
  have h2 : late n s sz c = false := late_no fun i hi e => by have := topF_le (s := s) hi; omega
  unfold freshD
  rw [h2]
  simp
end Go.Proofs.YtbkbcfimpaolmaaGreat
