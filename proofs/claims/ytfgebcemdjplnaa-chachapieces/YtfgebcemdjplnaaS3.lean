/-
  Own text. What Stream of package chacha gives.
-/
import Derived.Test.YtfgebcemdjplnaaS2
namespace Go.Proofs.Ytfgebcemdjplnaa
open Go.RowKit Go.Proofs
/-- Byte j of the key stream. -/
def ksb (key nonce : Nat → Int) (c : Int) (j : Nat) : Int := blk (ssq key ((c + (j / 64 : Nat)) % 4294967296) nonce 3) (j % 64)
/-- Byte j of a text under the key stream. -/
def strm (key nonce : Nat → Int) (c : Int) (s : ByteArray) (j : Nat) : Int := xorw (txt s j) (ksb key nonce c j)
theorem ssq_12 (key nonce : Nat → Int) (c d : Int) (k : Nat) : upd (ssq key c nonce k) 12 d = ssq key d nonce k := by
  funext i
  unfold upd ssq
  split <;> rfl
theorem ahead_sq (key nonce : Nat → Int) (c : Int) (k : Nat) : upd (ssq key c nonce 3) 12 (addw (ssq key c nonce 3 12) ((k : Int) % 4294967296)) = ssq key ((c + (k : Nat)) % 4294967296) nonce 3 := by
  rw [ssq_12, show ssq key c nonce 3 12 = c from rfl]
  unfold addw
  congr 1
  omega
theorem xorw_comm (x y : Int) : xorw x y = xorw y x := by unfold xorw; rw [Nat.xor_comm]
theorem xorw_b {x y : Int} (hx : 0 ≤ x ∧ x < 256) (hy : 0 ≤ y ∧ y < 256) : 0 ≤ xorw x y ∧ xorw x y < 256 := by
  have := Nat.xor_lt_two_pow (x := x.toNat) (y := y.toNat) (n := 8) (by omega) (by omega)
  unfold xorw
  omega
/-- A block, its first j bytes xor those of a text. -/
def xo (b p : Nat → Int) (j : Nat) (i : Nat) : Int := if i < j then xorw (b i) (p i) else b i
theorem xo_step (b p : Nat → Int) (j : Nat) : upd (xo b p j) j (xorw (xo b p j j) (p j)) = xo b p (j + 1) := by
  funext i
  unfold upd xo
  by_cases e : i = j
  · subst e; simp
  · rw [if_neg e]
    by_cases h : i < j
    · rw [if_pos h, if_pos (by omega)]
    · rw [if_neg h, if_neg (by omega)]
theorem xo_b {b p : Nat → Int} {n : Nat} (j : Nat) (hb : ∀ i, i < n → 0 ≤ b i ∧ b i < 256) (hp : ∀ i, 0 ≤ p i ∧ p i < 256) : ∀ i, i < n → 0 ≤ xo b p j i ∧ xo b p j i < 256 := fun i hi => by
  unfold xo
  split
  · exact xorw_b (hb i hi) (hp i)
  · exact hb i hi
theorem txt_get {s : ByteArray} {j : Nat} (h : j < s.size) : (((s[j]'h).toNat : Nat) : Int) = txt s j := by
  unfold txt
  have : j < s.data.toList.length := by simpa using h
  rw [List.getD_eq_getElem?_getD, List.getElem?_eq_getElem this]
  rfl
theorem txt_extract (s : ByteArray) (a j : Nat) (h : a + j < s.size) : txt (s.extract a s.size) j = txt s (a + j) := by
  have h1 : j < (s.extract a s.size).size := by rw [ByteArray.size_extract]; omega
  rw [← txt_get h1, ← txt_get h]
  congr 2
  exact ByteArray.getElem_extract h1
theorem extract_size (s : ByteArray) (a : Nat) : (s.extract a s.size).size = s.size - a := by
  simp
theorem run_load8 {w : World} {p : Addr} {n : Int} (h : w.cell? p = some (.int .u8 n)) : (Instr.loadAt 5 (.pointer (some p))).run Try.prog w = .ok (.int .u8 n) w := by
  simp [go_sem, h]
theorem act_cell8 {o : Oper} {a : Act} {w : World} {K : Act → World → Prop} {Q : Exit → Act → World → Prop} {x y : Operand} (ho : o.op = .store 5 x y) {g n i : Nat} {ty : TypeId} {s : Nat → Int} {v : Int} (hx : a.eval x = .pointer (some ⟨g, i, none⟩)) (hy : a.eval y = .int .u8 v)
    (hg : ArrAt w g .u8 ty n s) (hi : i < n) (h : ∀ w', ArrAt w' g .u8 ty n (upd s i v) → Only g w w' → K (a.put o.dst undef) w') : o.wp Try.prog a w K Q := by
  have hc := hg.cell i hi
  have hf := hg.free i
  have h' := h _ (hg.set i v hi) only_set
  unfold Oper.wp execOp
  simp only [ho, hx, hy]
  simp [go_sem, hc, hf]
  exact h'
theorem exec_ixs {a : Act} {o : Oper} {w : World} {x y : Operand} (ho : o.op = .index 9 x y) {s : ByteArray} {j : Nat} (hx : a.eval x = .string s) (hy : a.eval y = .int .i64 (j : Int)) (hj : j < s.size) : (execOp a.eval o).run Try.prog w = .ok (.value (.int .u8 (txt s j))) w := by
  unfold execOp
  simp only [ho, hx, hy, Sem.run_bind]
  rw [run_index_string w 9 s .i64 (j : Int) Try.underlying9, dif_pos ⟨by omega, by omega⟩]
  simp only [Result.andThen_ok, Sem.run_pure, Int.toNat_natCast]
  rw [txt_get hj]
theorem exec_xor8 {a : Act} {o : Oper} {w : World} {x y : Operand} (ho : o.op = .binOp .xor 5 x y 5) {m n : Int} (hx : a.eval x = .int .u8 m) (hy : a.eval y = .int .u8 n) (hm : 0 ≤ m ∧ m < 256) (hn : 0 ≤ n ∧ n < 256) :
    (execOp a.eval o).run Try.prog w = .ok (.value (.int .u8 (xorw m n))) w := exec_bin ho rfl hx hy (by simp [go_sem, u8_xor m n hm.1 hm.2 hn.1 hn.2, xorw])
theorem below_Gc {wd : World} {G : List (Nat × Cont)} {B c : Nat} (hc : c ≤ wd.heap.size) (hB : wd.heap.size ≤ B) (hG : GLow c G) (w w' : World) (h : Below c wd w) (ht : Touch (fun k => B ≤ k ∨ k ∈ G.map (·.1)) w w') : Below c wd w' :=
  h.trans ⟨ht.os, ht.tape, ht.output, ht.size, fun k hk => ht.block k (by have := h.size; omega) (fun e => e.elim (fun e => by omega) (fun e => by have := hG.at k e; omega))⟩
theorem blk_b (s : Nat → Int) : Byts 64 (blk s) := pw_byts _ _ _
theorem sl64H (b j : Nat) (w : World) (hj : j ≤ 64) : (Instr.sliceAt 33 (.pointer (some ⟨b, 0, none⟩)) none (some (.int .i64 (j : Int))) none).run Try.prog w = .ok (.slice (some ⟨b, 0, none⟩) j 64) w := by
  rw [run_sliceAt_array_h (P := Try.prog) w 33 ⟨b, 0, none⟩ Try.underlying33 .i64 (j : Int) (by omega) (by rw [len64]; omega), sizeB64, len64]
  simp only [Result.andThen_ok, slicedAt, Int.toNat_natCast, Nat.zero_mul]
  rw [if_neg (by omega), Addr.add_lit]
  simp
theorem strm_b (key nonce : Nat → Int) (c : Int) (s : ByteArray) (j : Nat) : 0 ≤ strm key nonce c s j ∧ strm key nonce c s j < 256 := xorw_b (txt_b s j) (blk_b _ _ (Nat.mod_lt _ (by decide)))
set_option maxHeartbeats 4000000 in
set_option maxRecDepth 100000 in
theorem Stream_run (key nonce : Nat → Int) (c : Int) (s : ByteArray) (w : World) (hk : Byts 32 key) (hn : Byts 12 nonce) (_hc : W32 c) (hs : s.size ≤ 140737488355328) :
    Calls Try.prog 15 #[.agg (WA .u8 32 key), .int .u32 c, .agg (WA .u8 12 nonce), .string s] w fun e w' => e = .returned (.string (mkS s.size (strm key nonce c s))) ∧ Below w.heap.size w w' := by
  have g0 : ArrAt ((w.alloc (.cells (WA .u8 32 key) 29)).alloc (.cells (WA .u8 12 nonce) 30)) w.heap.size .u8 29 32 key := heap_alloc2_old w _ _
  have g1 : ArrAt ((w.alloc (.cells (WA .u8 32 key) 29)).alloc (.cells (WA .u8 12 nonce) 30)) (w.heap.size + 1) .u8 30 12 nonce := heap_alloc2_new w _ _
  have hB : Below w.heap.size w ((w.alloc (.cells (WA .u8 32 key) 29)).alloc (.cells (WA .u8 12 nonce) 30)) := ((Below.refl _ w).alloc (by simp) _).alloc (by simp) _
  go_enter Try.func15, Try.ntmps15
  go_wp2_with (first | (refine ld_arr isArr32 g0 (by rfl) ?_) | (refine ld_arr isArr12 g1 (by rfl) ?_))
  refine (streamSquare_run key nonce c _ hk hn).mono ?_
  rintro e v1 ⟨rfl, hb⟩
  replace hB := hB.trans (hb.mono hB.size)
  clear hb g0 g1
  go_wp2_with (first | (refine st_arr (s' := fun _ => 0) (k' := .u32) isSq (heap_alloc_new v1 _) (by rfl) (by rfl) ?_; intro v2 g3 o3; refine Hid.out ?_))
  have hz9 : w.heap.size ≤ v1.heap.size := hB.size
  replace hB := (hB.alloc hB.size _).trans (o3.below hB.size)
  have hz1 := hB.size
  clear o3
  generalize v1.heap.size = b9 at *
  refine Hid.mk ?_
  go_wp2_with fail
  refine (grow_run v2.heap.size v2.heap.size s.size _ (Nat.le_refl _) (heap_alloc_new v2 _) (by simp) (by omega)).mono ?_
  rintro e v3 ⟨rfl, hD, hb3⟩
  have hz10 := g3.lt
  replace g3 := (g3.alloc _).below hb3 hz10
  replace hB := (hB.alloc hB.size _).trans (hb3.mono hz1)
  have hz3 : v2.heap.size ≤ v3.heap.size := Nat.le_trans (by simp) hb3.size
  clear hb3 hz1
  generalize v2.heap.size = b10 at *
  obtain ⟨N, hN⟩ : ∃ N : Nat, (s.size + 63) / 64 = N := ⟨_, rfl⟩
  have hq : ((s.size : Int) + 64 - 1).tdiv 64 = (N : Int) := by rw [Int.tdiv_eq_ediv_of_nonneg (by omega)]; omega
  have hN2 : (N : Int) < 9223372036854775807 := by omega
  go_wp2_with fail
  go_loopg [28] N (fun m i v => ∃ k : Nat, Hid (m + k = N) ∧ i = .int .i64 k ∧ ArrAt v b9 .u32 44 16 (ssq key c nonce 3) ∧ Bld v b10 b10 (min (64 * k) s.size) (strm key nonce c s) ∧ Below w.heap.size w v ∧ b10 ≤ v.heap.size)
  case atStart => exact ⟨0, Hid.mk (by omega), rfl, g3, by simpa using hD.congr (fun i hi => by omega), hB, hz3⟩
  case round =>
    clear g3 hD hB hz3
    obtain ⟨k, HK, rfl, g3, hD, hB, hz3⟩ := hrel
    have hkN : k ≤ N := by have := HK.out; omega
    by_cases hlt : k < N
    · have hks : 64 * k < s.size := by omega
      go_wp2_with (first | (refine ld_arr isSq g3 (by rfl) ?_))
      refine (ahead_run _ _ _).mono ?_
      rintro e v4 ⟨rfl, hb4⟩
      rw [ahead_sq]
      have hW : ∀ i, i < 16 → W32 (ssq key ((c + (k : Nat)) % 4294967296) nonce 3 i) := ssq_w hk hn (by unfold W32; omega)
      have HB : Hid (blk (ssq key ((c + (k : Nat)) % 4294967296) nonce 3) = fun i => blk (ssq key ((c + (k : Nat)) % 4294967296) nonce 3) i) := Hid.mk rfl
      go_wp2_with fail
      refine (block_run _ _ hW).mono ?_
      rintro e v5 ⟨rfl, hb5⟩
      have hb45 : Below wr.heap.size wr v5 := hb4.trans (hb5.mono hb4.size)
      replace g3 := g3.kept hb45
      replace hD := hD.kept hb45
      replace hB := hB.trans (hb45.mono hB.size)
      replace hz3 := Nat.le_trans hz3 hb45.size
      clear hb4 hb5 hb45 hW HB
      have hbk := blk_b (ssq key ((c + (k : Nat)) % 4294967296) nonce 3)
      obtain ⟨bk, HK2⟩ : ∃ bk, Hid (blk (ssq key ((c + (k : Nat)) % 4294967296) nonce 3) = bk) := ⟨_, Hid.mk rfl⟩
      rw [HK2.out] at hbk ⊢
      have HS := Hid.mk (extract_size s (k * 64))
      have HT : Hid (∀ j, k * 64 + j < s.size → txt (s.extract (k * 64) s.size) j = txt s (k * 64 + j)) := Hid.mk (fun j hj => txt_extract s (k * 64) j hj)
      generalize s.extract (k * 64) s.size = pc at *
      obtain ⟨n, HN⟩ : ∃ n : Nat, Hid (min pc.size 64 = n) := ⟨_, Hid.mk rfl⟩
      have hmin : min (pc.size : Int) 64 = (n : Int) := by have := HN.out; omega
      have hn64 : n ≤ 64 := by have := HN.out; omega
      have hnp : n ≤ pc.size := by have := HN.out; omega
      have hpsz : pc.size ≤ 140737488355328 := by have := HS.out; omega
      go_wp2_with (first | (refine st_arr (s' := fun _ => 0) (k' := .u8) isArr64 (heap_alloc_new v5 _) (by rfl) (by rfl) ?_; intro v6 g6 o6; refine Hid.out ?_))
      have hb6 : Below v5.heap.size v5 v6 := ((Below.refl _ v5).alloc (Nat.le_refl _) _).trans (o6.below (Nat.le_refl _))
      clear o6
      refine Hid.mk ?_
      go_wp2_with fail
      rw [show bk = xo bk (txt pc) 0 from by funext i; unfold xo; rw [if_neg (by omega)]] at g6
      obtain ⟨b13, hb13⟩ : ∃ b, v5.heap.size = b := ⟨_, rfl⟩
      rw [hb13] at g6 hb6 ⊢
      generalize wr = wo at *
      generalize gk = go at *
      go_loopg [44] n (fun m i v => ∃ j : Nat, Hid (m + j = n) ∧ i = .int .i64 j ∧ ArrAt v b13 .u8 33 64 (xo bk (txt pc) j) ∧ Below b13 v5 v)
      case atStart => exact ⟨0, Hid.mk (by omega), rfl, g6, hb6⟩
      case round =>
        clear g6 hb6
        obtain ⟨j, HJ, rfl, g6, hb6⟩ := hrel
        have hjn : j ≤ n := by have := HJ.out; omega
        by_cases hjl : j < n
        · have hj64 : j < 64 := by omega
          have hjp : j < pc.size := by omega
          go_wp2_with fail
          refine wp_region3 (Below b13 v5) wr.heap.size
            [(b13, once (WA .u8 64 (xo bk (txt pc) j)) 33 8 (WA .u8 64 (xo bk (txt pc) (j + 1))))]
            [kv (.int .i64 (j : Int)), kv (.pointer (some ⟨b13, j, none⟩)), kv (.int .u8 (xo bk (txt pc) j j)), kv (.string pc), kv (.int .i64 (j : Int)), kv (.int .u8 (txt pc j)), kv (.int .u8 (xorw (xo bk (txt pc) j j) (txt pc j))), kv (.pointer (some ⟨b13, j, none⟩)), .val fun _ => True]
            [.none, .none, .none, .none, .none, .none, .none, .none, .base 0 1]
            [some 47, some 48, some 49, some 50, some 51, some 52, some 53, some 54, none]
            [(12, .string pc), (13, .pointer (some ⟨b13, 0, none⟩)), (15, .int .i64 (j : Int))]
            [[], [.slot 0], [.slot 1, .base 0 0], [], [], [.slot 3, .slot 4], [.slot 2, .slot 5], [.slot 0], [.slot 7, .slot 6, .base 0 0]]
            [.base 0 1] [47, 48, 49, 50, 51, 52, 53, 54]
            rfl (by kernel_rfl) ⟨rfl, rfl, rfl, trivial⟩ (Below.drew hb6) (Nat.le_refl _) ⟨⟨g6.lt, obIn g6⟩, trivial⟩ ⟨trivial, trivial⟩ (below_Gc (Nat.le_of_eq hb13.symm) (hb13 ▸ hb6.size) ⟨Nat.le_refl _, trivial⟩)
            ⟨
              -- 0
              (fun Q aq ww own hS hBg fr kn => .inl ⟨trivial, fun K hK => wp_value (exec_move rfl fr.2.2.1) (hK _ _ ⟨Touch.refl _ _, rfl⟩)⟩),
              -- 1
              (fun Q aq ww own hS hBg fr kn => .inl ⟨trivial, fun K hK => wp_value (exec_idxA rfl Try.underlying33 len64 sizeB64 fr.2.1 kn.1 hj64) (hK _ _ ⟨Touch.refl _ _, rfl⟩)⟩),
              -- 2
              (fun Q aq ww own hS hBg fr kn => .inl ⟨trivial, fun K hK => wp_value (exec_ld rfl kn.1 (run_load8 (ArrAt.cell (obAt kn.2.1) j hj64))) (hK _ _ ⟨Touch.refl _ _, rfl⟩)⟩),
              -- 3
              (fun Q aq ww own hS hBg fr kn => .inl ⟨trivial, fun K hK => wp_value (exec_move rfl fr.1) (hK _ _ ⟨Touch.refl _ _, rfl⟩)⟩),
              -- 4
              (fun Q aq ww own hS hBg fr kn => .inl ⟨trivial, fun K hK => wp_value (exec_move rfl fr.2.2.1) (hK _ _ ⟨Touch.refl _ _, rfl⟩)⟩),
              -- 5
              (fun Q aq ww own hS hBg fr kn => .inl ⟨trivial, fun K hK => wp_value (exec_ixs rfl kn.1 kn.2.1 hjp) (hK _ _ ⟨Touch.refl _ _, rfl⟩)⟩),
              -- 6
              (fun Q aq ww own hS hBg fr kn => .inl ⟨trivial, fun K hK => wp_value (exec_xor8 rfl kn.1 kn.2.1 (xo_b j hbk (txt_b pc) j hj64) (txt_b pc j)) (hK _ _ ⟨Touch.refl _ _, rfl⟩)⟩),
              -- 7
              (fun Q aq ww own hS hBg fr kn => .inl ⟨trivial, fun K hK => wp_value (exec_idxA rfl Try.underlying33 len64 sizeB64 fr.2.1 kn.1 hj64) (hK _ _ ⟨Touch.refl _ _, rfl⟩)⟩),
              -- 8
              (fun Q aq ww own hS hBg fr kn => .inl ⟨trivial, fun K hK => act_cell8 rfl kn.1 kn.2.1 (obAt kn.2.2.1) hj64 (fun w2 hg ho => hK _ _ ⟨⟨touch_only ho, obIn (show _ = _ from by rw [← xo_step]; exact hg)⟩, trivial⟩)⟩),
              trivial⟩ ?_
          intro vs7 own7 v7 hb7 hs7 kn inj
          clear inj hs7
          have G6 : ArrAt v7 b13 .u8 33 64 (xo bk (txt pc) (j + 1)) := obAt kn.1
          clear kn
          simp only [putAll, Act.put, List.setIfInBounds_toArray, List.set_cons_zero, List.set_cons_succ]
          go_wp2_with fail
          go_roundg (n - (j + 1))
          case rel => exact ⟨j + 1, Hid.mk (by omega), by go_num, G6, hb7⟩
          case measure => have := HJ.out; omega
        · have hj2 : j = n := by omega
          subst hj2
          clear hjl hjn HJ
          have hsl := fun w => sl64H b13 j w hn64
          go_wp2_with fail
          have hD2 := hD.kept (hb13.symm ▸ hb6)
          have g3b := g3.kept (hb13.symm ▸ hb6)
          refine (write_run b10 b10 (min (64 * k) s.size) j 64 b13 0 (strm key nonce c s) (xo bk (txt pc) j) _ hD2 (fun q hq => by rw [Nat.zero_add]; exact g6.cell q (by omega)) (by have := HS.out; omega) (by have := hb6.size; omega)).mono ?_
          rintro e v8 ⟨rfl, hD8, hb8⟩
          have hks2 : min (64 * k) s.size = 64 * k := by omega
          have hnx : min (64 * k) s.size + j = min (64 * (k + 1)) s.size := by have := HN.out; have := HS.out; omega
          replace hD8 := hD8.congr (g := strm key nonce c s) (fun i hi => by
            rw [hks2]
            unfold cat
            split
            · rfl
            · rename_i h
              have e1 : i / 64 = k := by omega
              have e2 : i % 64 = i - 64 * k := by omega
              have e3 : txt pc (i - 64 * k) = txt s i := by
                have := HT.out (i - 64 * k) (by have := HS.out; omega)
                rw [this]
                congr 1
                omega
              unfold xo strm ksb
              rw [if_pos (by omega), e1, e2, e3, HK2.out, xorw_comm])
          rw [hnx] at hD8
          have g8 := g3b.below hb8 hz10
          have hB8 := (hB.trans (Below.mono (hb13.symm ▸ hb6) hB.size)).trans (hb8.mono (by omega))
          have hz8 : b10 ≤ v8.heap.size := by have := hb8.size; have := hb6.size; omega
          clear hsl hD hD2 g3 g3b g6 hb6 hb8 hB hmin
          go_wp2_with fail
          go_roundg (N - (k + 1))
          case rel => exact ⟨k + 1, Hid.mk (by omega), by go_num, g8, hD8, hB8, hz8⟩
          case measure => have := HK.out; omega
    · have hk2 : k = N := by omega
      subst hk2
      have hall : min (64 * k) s.size = s.size := by omega
      rw [hall] at hD
      go_wp2_with fail
      refine (string_run b10 b10 s.size (strm key nonce c s) _ hD (fun j _ => strm_b key nonce c s j) hz3).mono ?_
      rintro e v9 ⟨rfl, hb9⟩
      go_wp2_with fail
      go_ret
      exact ⟨rfl, hB.trans (hb9.mono (by omega))⟩
end Go.Proofs.Ytfgebcemdjplnaa
