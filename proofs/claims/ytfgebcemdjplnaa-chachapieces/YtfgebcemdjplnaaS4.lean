/-
  Own text. What Stream of the document's answer gives: the same text.
-/
import Derived.Test.YtfgebcemdjplnaaS3
import Derived.Laws.IdiomStrings
namespace Go.Proofs.Ytfgebcemdjplnaa
open Go.RowKit Go.Proofs
theorem conv_str (s : ByteArray) (w : World) : ∃ cp v, (convert 9 32 (.string s)).run Try.prog w = .ok (.slice (some ⟨w.heap.size, 0, none⟩) s.size cp) v ∧ RowAt v w.heap.size .u8 5 s.size (txt s) ∧ Below w.heap.size w v := by
  refine ⟨_, _, run_bytes_of_string w 9 32 5 s Try.underlying9 Try.underlying32 Try.underlying5, ⟨_, heap_alloc_new w.drew _, _, _, rfl, ?_, ?_, ?_⟩, (Below.refl _ w).drew.alloc (Nat.le_refl _) _⟩
  · simp only [bytesRow, Array.size_append, Array.size_map]
    have : s.data.size = s.size := rfl
    omega
  · intro i hi
    have : s.data.size = s.size := rfl
    simp only [bytesRow, Array.size_append, Array.size_map]
    omega
  · intro i hi
    have hi2 : i < s.data.size := hi
    unfold bytesRow
    rw [Array.getElem?_append_left (by simpa using hi2)]
    simp [txt]
    exact ⟨_, Array.getElem?_eq_getElem hi2, by rw [Array.getElem?_eq_getElem hi2]; rfl⟩
theorem str_back {ty : TypeId} (a b cp : Nat) (w : World) (n : Nat) (f : Nat → Int) (hR : RowAt w b .u8 ty n f) (hf : ∀ j, j < n → 0 ≤ f j ∧ f j < 256) (ha : a = n) : (convert 32 9 (.slice (some ⟨b, 0, none⟩) a cp)).run Try.prog w = .ok (.string (mkS n f)) w := by
  subst ha
  have h := run_convert_bytes_back (P := Try.prog) w 32 9 5 ⟨b, 0, none⟩ cp (bytesL a f) Try.underlying32 Try.underlying5 Try.underlying9 (fun j hj => by
    rw [bytesL_len] at hj
    rw [Addr.add_lit, Nat.zero_add, hR.cell j hj]
    have := hf j hj
    simp [bytesL]
    omega)
  rw [bytesL_len] at h
  exact h
/-- A text, of which the first i bytes are under the key stream. -/
def mix (g t : Nat → Int) (i : Nat) (j : Nat) : Int := if j < i then g j else t j
theorem mix_step (g t : Nat → Int) (i : Nat) (v : Int) (h : v = g i) : upd (mix g t i) i v = mix g t (i + 1) := by
  subst h
  funext j
  unfold upd mix
  by_cases e : j = i
  · subst e; simp
  · rw [if_neg e]
    by_cases h : j < i
    · rw [if_pos h, if_pos (by omega)]
    · rw [if_neg h, if_neg (by omega)]
theorem act_row8 {o : Oper} {a : Act} {w : World} {K : Act → World → Prop} {Q : Exit → Act → World → Prop} {x y : Operand} (ho : o.op = .store 5 x y) {b i n : Nat} {t : TypeId} {s : Nat → Int} {v : Int} (hx : a.eval x = .pointer (some ⟨b, i, none⟩)) (hy : a.eval y = .int .u8 v)
    (hr : RowAt w b .u8 t n s) (hi : i < n) (h : ∀ w', RowAt w' b .u8 t n (upd s i v) → Only b w w' → K (a.put o.dst undef) w') : o.wp Try.prog a w K Q := by
  have hc := hr.cell i hi
  have hf := hr.free i hi
  have h' := h _ (hr.set i v) only_set
  unfold Oper.wp execOp
  simp only [ho, hx, hy]
  simp [go_sem, hc, hf]
  exact h'
theorem size_byte (w : World) : (sizeOf (Try.prog.elem 32)).run Try.prog w = .ok 1 w := by kernel_rfl
theorem cell8 {w : World} {b n : Nat} {t : TypeId} {s : Nat → Int} {x : Nat} (h : RowAt w b .u8 t n s) (hx : x < n) : w.cell? ⟨b, 0 + x, none⟩ = some (.int .u8 (s x)) := by rw [Nat.zero_add]; exact h.cell x hx
set_option maxHeartbeats 4000000 in
set_option maxRecDepth 100000 in
theorem rStream_run (key nonce : Nat → Int) (c : Int) (s : ByteArray) (w : World) (hk : Byts 32 key) (hn : Byts 12 nonce) (hc : W32 c) (hs : s.size ≤ 140737488355328) :
    Calls Try.prog 16 #[.agg (WA .u8 32 key), .int .u32 c, .agg (WA .u8 12 nonce), .string s] w fun e w' => e = .returned (.string (mkS s.size (strm key nonce c s))) ∧ Below w.heap.size w w' := by
  have g0 : ArrAt ((w.alloc (.cells (WA .u8 32 key) 29)).alloc (.cells (WA .u8 12 nonce) 30)) w.heap.size .u8 29 32 key := heap_alloc2_old w _ _
  have g1 : ArrAt ((w.alloc (.cells (WA .u8 32 key) 29)).alloc (.cells (WA .u8 12 nonce) 30)) (w.heap.size + 1) .u8 30 12 nonce := heap_alloc2_new w _ _
  have hB : Below w.heap.size w ((w.alloc (.cells (WA .u8 32 key) 29)).alloc (.cells (WA .u8 12 nonce) 30)) := ((Below.refl _ w).alloc (by simp) _).alloc (by simp) _
  obtain ⟨cp, v1, hcv, hR, hb1⟩ := conv_str s ((w.alloc (.cells (WA .u8 32 key) 29)).alloc (.cells (WA .u8 12 nonce) 30))
  rw [show ((w.alloc (.cells (WA .u8 32 key) 29)).alloc (.cells (WA .u8 12 nonce) 30)).heap.size = w.heap.size + 1 + 1 by simp] at hcv hR
  replace g0 := g0.kept hb1
  replace g1 := g1.kept hb1
  replace hB := hB.trans (hb1.mono hB.size)
  clear hb1
  go_enter Try.func16, Try.ntmps16
  go_wp2_with fail
  clear hcv
  obtain ⟨b9, hb9⟩ : ∃ b, w.heap.size + 1 + 1 = b := ⟨_, rfl⟩
  rw [hb9] at hR ⊢
  obtain ⟨N, hN⟩ : ∃ N : Nat, (s.size + 63) / 64 = N := ⟨_, rfl⟩
  go_loopg [1, 10] N (fun m cv i v => ∃ q : Nat, Hid (m + q = N) ∧ cv = .int .u32 ((c + (q : Nat)) % 4294967296) ∧ i = .int .i64 ((min (64 * q) s.size : Nat) : Int) ∧ ArrAt v w.heap.size .u8 29 32 key ∧ ArrAt v (w.heap.size + 1) .u8 30 12 nonce ∧ RowAt v b9 .u8 5 s.size (mix (strm key nonce c s) (txt s) (min (64 * q) s.size)) ∧ Below w.heap.size w v)
  case atStart => exact ⟨0, Hid.mk (by omega), by unfold W32 at hc; congr 1; omega, by simp, g0, g1, hR.mono (Nat.le_refl _) (fun i _ => by simp [mix]), hB⟩
  case round =>
    clear g0 g1 hR hB
    obtain ⟨q, HQ, rfl, rfl, g0, g1, hR, hB⟩ := hrel
    have hqN : q ≤ N := by have := HQ.out; omega
    by_cases hlt : q < N
    · have hqs : 64 * q < s.size := by omega
      have hm : min (64 * q) s.size = 64 * q := by omega
      rw [hm] at hR ⊢
      go_wp2_with (first | (refine ld_arr isArr32 g0 (by rfl) ?_) | (refine ld_arr isArr12 g1 (by rfl) ?_))
      refine (rBlock_run key nonce ((c + (q : Nat)) % 4294967296) _ hk hn (by unfold W32; omega)).mono ?_
      rintro e v4 ⟨rfl, hb4⟩
      replace g0 := g0.kept hb4
      replace g1 := g1.kept hb4
      have hz4 : b9 < v4.heap.size := Nat.lt_of_lt_of_le hR.lt hb4.size
      replace hR := hR.below hb4 hR.lt
      replace hB := hB.trans (hb4.mono hB.size)
      clear hb4
      have hbk := blk_b (ssq key ((c + (q : Nat)) % 4294967296) nonce 3)
      obtain ⟨bk, HK2⟩ : ∃ bk, Hid (blk (ssq key ((c + (q : Nat)) % 4294967296) nonce 3) = bk) := ⟨_, Hid.mk rfl⟩
      rw [HK2.out] at hbk ⊢
      go_wp2_with (first | (refine st_arr (s' := fun _ => 0) (k' := .u8) isArr64 (heap_alloc_new v4 _) (by rfl) (by rfl) ?_; intro v5 g5 o5; refine Hid.out ?_))
      replace g0 := (g0.alloc _).only o5 (Nat.ne_of_lt g0.lt)
      replace g1 := (g1.alloc _).only o5 (Nat.ne_of_lt g1.lt)
      replace hR := (hR.alloc _).only o5 (Nat.ne_of_lt hz4)
      replace hB := (hB.alloc hB.size _).trans (o5.below hB.size)
      clear o5
      generalize v4.heap.size = b11 at *
      refine Hid.mk ?_
      have hd : decide (((64 * q : Nat) : Int) < (s.size : Int)) = true := by simp; omega
      go_wp2_with fail
      obtain ⟨n, hnn⟩ : ∃ n : Nat, min 64 (s.size - 64 * q) = n := ⟨_, rfl⟩
      generalize wr = wo at *
      generalize gk = go at *
      go_loopg [10, 12] n (fun m i jv v => ∃ j : Nat, Hid (m + j = n) ∧ i = .int .i64 ((64 * q + j : Nat) : Int) ∧ jv = .int .i64 (j : Int) ∧ ArrAt v w.heap.size .u8 29 32 key ∧ ArrAt v (w.heap.size + 1) .u8 30 12 nonce ∧ ArrAt v b11 .u8 33 64 bk ∧ RowAt v b9 .u8 5 s.size (mix (strm key nonce c s) (txt s) (64 * q + j)) ∧ Below w.heap.size w v)
      case atStart => exact ⟨0, Hid.mk (by omega), by go_num, rfl, g0, g1, g5, hR, hB⟩
      case round =>
        clear g0 g1 hR hB g5
        obtain ⟨j, HJ, rfl, rfl, g0, g1, g5, hR, hB⟩ := hrel
        have hjn : j ≤ n := by have := HJ.out; omega
        by_cases hjl : j < n
        · have hj64 : j < 64 := by omega
          have hjs : 64 * q + j < s.size := by omega
          have HX : Hid (xorw (mix (strm key nonce c s) (txt s) (64 * q + j) (64 * q + j)) (bk j) = strm key nonce c s (64 * q + j)) := Hid.mk (by
            have e1 : (64 * q + j) / 64 = q := by omega
            have e2 : (64 * q + j) % 64 = j := by omega
            unfold mix strm ksb
            rw [if_neg (by omega), e1, e2, HK2.out])
          have hmb : 0 ≤ mix (strm key nonce c s) (txt s) (64 * q + j) (64 * q + j) ∧ mix (strm key nonce c s) (txt s) (64 * q + j) (64 * q + j) < 256 := by
            unfold mix
            rw [if_neg (by omega)]
            exact txt_b _ _
          obtain ⟨i, hi⟩ : ∃ i, 64 * q + j = i := ⟨_, rfl⟩
          rw [hi] at HX hmb hR hjs ⊢
          have hic : (i : Int) < (s.size : Int) := by omega
          go_wp2_with fail
          refine wp_region3 (Below w.heap.size w) wr.heap.size
            [(w.heap.size, fixd (WA .u8 32 key) 29), ((w.heap.size + 1), fixd (WA .u8 12 nonce) 30), (b11, fixd (WA .u8 64 bk) 33), (b9, ⟨rowOb .u8 5 s.size (mix (strm key nonce c s) (txt s) i), [(11, rowOb .u8 5 s.size (mix (strm key nonce c s) (txt s) (i + 1)))]⟩)]
            [kv (.slice (some ⟨b9, 0, none⟩) s.size cp), kv (.int .i64 (i : Int)), kv (.slice (some ⟨b9, 0, none⟩) s.size cp), kv (.int .i64 (i : Int)), kv (.pointer (some ⟨b9, 0 + i, none⟩)), kv (.int .u8 (mix (strm key nonce c s) (txt s) i i)), kv (.int .i64 (j : Int)), kv (.pointer (some ⟨b11, j, none⟩)), kv (.int .u8 (bk j)), kv (.int .u8 (xorw (mix (strm key nonce c s) (txt s) i i) (bk j))), kv (.pointer (some ⟨b9, 0 + i, none⟩)), .val fun _ => True]
            [.none, .none, .none, .none, .none, .none, .none, .none, .none, .none, .none, .base 3 1]
            [some 33, some 34, some 35, some 36, some 37, some 38, some 39, some 40, some 41, some 42, some 43, none]
            [(9, .slice (some ⟨b9, 0, none⟩) s.size cp), (10, .int .i64 (i : Int)), (11, .pointer (some ⟨b11, 0, none⟩)), (12, .int .i64 (j : Int))]
            [[], [], [], [], [.slot 2, .slot 3], [.slot 4, .base 3 0], [], [.slot 6], [.slot 7, .base 2 0], [.slot 5, .slot 8], [.slot 0, .slot 1], [.slot 10, .slot 9, .base 3 0]]
            [.base 0 0, .base 1 0, .base 2 0, .base 3 1] [33, 34, 35, 36, 37, 38, 39, 40, 41, 42, 43]
            rfl (by kernel_rfl) ⟨rfl, rfl, rfl, rfl, trivial⟩ (Below.drew hB) (Nat.le_refl _) ⟨⟨g0.lt, obIn g0⟩, ⟨g1.lt, obIn g1⟩, ⟨g5.lt, obIn g5⟩, ⟨hR.lt, hR⟩, trivial⟩ ⟨⟨trivial, trivial, (show (w.heap.size : Nat) ≠ b9 from by omega), trivial⟩, ⟨trivial, (show ((w.heap.size + 1) : Nat) ≠ b9 from by omega), trivial⟩, ⟨(show (b11 : Nat) ≠ b9 from by omega), trivial⟩, trivial, trivial⟩ (below_G hB.size ⟨by omega, by omega, by omega, by omega, trivial⟩)
            ⟨
              -- 0
              (fun Q aq ww own hS hBg fr kn => .inl ⟨trivial, fun K hK => wp_value (exec_move rfl fr.1) (hK _ _ ⟨Touch.refl _ _, rfl⟩)⟩),
              -- 1
              (fun Q aq ww own hS hBg fr kn => .inl ⟨trivial, fun K hK => wp_value (exec_move rfl fr.2.1) (hK _ _ ⟨Touch.refl _ _, rfl⟩)⟩),
              -- 2
              (fun Q aq ww own hS hBg fr kn => .inl ⟨trivial, fun K hK => wp_value (exec_move rfl fr.1) (hK _ _ ⟨Touch.refl _ _, rfl⟩)⟩),
              -- 3
              (fun Q aq ww own hS hBg fr kn => .inl ⟨trivial, fun K hK => wp_value (exec_move rfl fr.2.1) (hK _ _ ⟨Touch.refl _ _, rfl⟩)⟩),
              -- 4
              (fun Q aq ww own hS hBg fr kn => .inl ⟨trivial, fun K hK => wp_value (exec_idx rfl Try.underlying32 size_byte kn.1 kn.2.1 hjs) (hK _ _ ⟨Touch.refl _ _, rfl⟩)⟩),
              -- 5
              (fun Q aq ww own hS hBg fr kn => .inl ⟨trivial, fun K hK => wp_value (exec_ld rfl kn.1 (run_load8 (cell8 kn.2.1 hjs))) (hK _ _ ⟨Touch.refl _ _, rfl⟩)⟩),
              -- 6
              (fun Q aq ww own hS hBg fr kn => .inl ⟨trivial, fun K hK => wp_value (exec_move rfl fr.2.2.2.1) (hK _ _ ⟨Touch.refl _ _, rfl⟩)⟩),
              -- 7
              (fun Q aq ww own hS hBg fr kn => .inl ⟨trivial, fun K hK => wp_value (exec_idxA rfl Try.underlying33 len64 sizeB64 fr.2.2.1 kn.1 hj64) (hK _ _ ⟨Touch.refl _ _, rfl⟩)⟩),
              -- 8
              (fun Q aq ww own hS hBg fr kn => .inl ⟨trivial, fun K hK => wp_value (exec_ld rfl kn.1 (run_load8 (ArrAt.cell (obAt kn.2.1) j hj64))) (hK _ _ ⟨Touch.refl _ _, rfl⟩)⟩),
              -- 9
              (fun Q aq ww own hS hBg fr kn => .inl ⟨trivial, fun K hK => wp_value (exec_xor8 rfl kn.1 kn.2.1 hmb (hbk j hj64)) (hK _ _ ⟨Touch.refl _ _, rfl⟩)⟩),
              -- 10
              (fun Q aq ww own hS hBg fr kn => .inl ⟨trivial, fun K hK => wp_value (exec_idx rfl Try.underlying32 size_byte kn.1 kn.2.1 hjs) (hK _ _ ⟨Touch.refl _ _, rfl⟩)⟩),
              -- 11
              (fun Q aq ww own hS hBg fr kn => .inl ⟨trivial, fun K hK => act_row8 rfl (ptr0 kn.1) kn.2.1 kn.2.2.1 hjs (fun w2 hg ho => hK _ _ ⟨⟨touch_only ho, mix_step _ _ i _ HX.out ▸ hg⟩, trivial⟩)⟩),
              trivial⟩ ?_
          intro vs6 own6 v6 hB6 hs6 kn inj
          clear inj hs6
          have G0 : ArrAt v6 w.heap.size .u8 29 32 key := obAt kn.1
          have G1 : ArrAt v6 (w.heap.size + 1) .u8 30 12 nonce := obAt kn.2.1
          have G5 : ArrAt v6 b11 .u8 33 64 bk := obAt kn.2.2.1
          have R6 : RowAt v6 b9 .u8 5 s.size (mix (strm key nonce c s) (txt s) (i + 1)) := kn.2.2.2.1
          clear kn
          simp only [putAll, Act.put, List.setIfInBounds_toArray, List.set_cons_zero, List.set_cons_succ]
          go_wp2_with fail
          go_roundg (n - (j + 1))
          case rel => exact ⟨j + 1, Hid.mk (by omega), by go_num, by go_num, G0, G1, G5, by rw [← Nat.add_assoc, hi]; exact R6, hB6⟩
          case measure => have := HJ.out; omega
        · have hj2 : j = n := by omega
          subst hj2
          clear hjl hjn HJ
          have hx : 64 * q + j = min (64 * (q + 1)) s.size := by omega
          have hend : ¬ ((j : Int) < 64 ∧ ((64 * q + j : Nat) : Int) < (s.size : Int)) := by omega
          rw [hx] at hR
          by_cases hj64 : (j : Int) < 64
          · have hns : ¬ (((64 * q + j : Nat) : Int) < (s.size : Int)) := by omega
            go_wp2_with fail
            go_roundg (N - (q + 1))
            case rel => exact ⟨q + 1, Hid.mk (by omega), congrArg (Value.int .u32) (by omega), by rw [← hx], g0, g1, hR, hB⟩
            case measure => have := HQ.out; omega
          · go_wp2_with fail
            go_roundg (N - (q + 1))
            case rel => exact ⟨q + 1, Hid.mk (by omega), congrArg (Value.int .u32) (by omega), by rw [← hx], g0, g1, hR, hB⟩
            case measure => have := HQ.out; omega
    · have hk2 : q = N := by omega
      subst hk2
      have hall : min (64 * q) s.size = s.size := by omega
      rw [hall] at hR ⊢
      have hback := str_back s.size b9 cp wr s.size (strm key nonce c s) (hR.mono (Nat.le_refl _) (fun i hi => by unfold mix; rw [if_pos hi])) (fun j _ => strm_b key nonce c s j) rfl
      go_wp2_with fail
      go_ret
      exact ⟨rfl, hB⟩
end Go.Proofs.Ytfgebcemdjplnaa
