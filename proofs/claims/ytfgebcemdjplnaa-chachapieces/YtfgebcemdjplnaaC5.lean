/-
  Own text. What Block of the document's answer gives: the block of package chacha's square.
-/
import Derived.Test.YtfgebcemdjplnaaC4
namespace Go.Proofs.Ytfgebcemdjplnaa
open Go.RowKit Go.Proofs
/-- The counter's bytes, then the nonce. -/
def inB (c : Int) (nonce : Nat → Int) : Nat → Int := over (over (fun _ => 0) 0 4 (b4 c)) 4 12 nonce
theorem b4_byts (v : Int) : ∀ i, 0 ≤ b4 v i ∧ b4 v i < 256 := fun i => by
  unfold b4
  split
  · omega
  split
  · omega
  split <;> omega
theorem inB_byts {c : Int} {nonce : Nat → Int} (hn : Byts 12 nonce) : Byts 16 (inB c nonce) := fun i hi => by
  unfold inB over
  split
  · exact hn _ (by omega)
  split
  · exact b4_byts _ _
  · simp
theorem wrd_congr {s t : Nat → Int} {i j : Nat} (h : ∀ q, q < 4 → s (4 * i + q) = t (4 * j + q)) : wrd s i = wrd t j := by
  unfold wrd
  rw [show s (4 * i) = t (4 * j) from h 0 (by omega), h 1 (by omega), h 2 (by omega), h 3 (by omega)]
theorem wrd_b4 {c : Int} (hc : W32 c) : wrd (b4 c) 0 = c := by
  unfold W32 at hc
  simp [wrd, b4]
  omega
theorem rsq_low (key inn : Nat → Int) (i : Nat) (h : i < 12) : rsq key inn i = ksq key 12 i := by
  unfold rsq ksq allB
  rw [if_pos h]
  split
  · exact wrd_congr (fun q hq => by unfold cat; rw [if_pos (by omega), if_pos (by omega)])
  · refine wrd_congr (fun q hq => ?_)
    unfold cat
    rw [if_pos (by omega), if_neg (by omega)]
    congr 1
    omega
theorem rsq_high (key inn : Nat → Int) (i : Nat) (h : 12 ≤ i) : rsq key inn i = wrd inn (i - 12) := by
  unfold rsq allB
  refine wrd_congr (fun q hq => ?_)
  unfold cat
  rw [if_neg (by omega)]
  congr 1
  omega
theorem rsq_ssq (key nonce : Nat → Int) (c : Int) (hc : W32 c) : ∀ i, i < 16 → rsq key (inB c nonce) i = ssq key c nonce 3 i := fun i hi => by
  unfold ssq
  by_cases h : i < 12
  · rw [rsq_low _ _ _ h, if_neg (by omega), if_neg (by omega)]
  · rw [rsq_high _ _ _ (by omega)]
    by_cases h12 : i = 12
    · subst h12
      rw [if_pos rfl]
      refine Eq.trans (wrd_congr (fun q hq => ?_)) (wrd_b4 hc)
      unfold inB over
      rw [if_neg (by omega), if_pos (by omega)]
      congr 1
    · rw [if_neg h12, if_pos (by omega)]
      refine wrd_congr (fun q hq => ?_)
      unfold inB over
      rw [if_pos (by omega)]
      congr 1
      omega
theorem rsq_w {key inn : Nat → Int} (hk : Byts 32 key) (hi : Byts 16 inn) : ∀ i, i < 16 → W32 (rsq key inn i) := fun i h => wrd_w (allB_byts hk hi) (by omega)
theorem qrow_congr {s t : Nat → Int} (h : ∀ i, i < 16 → s i = t i) {a b c d : Nat} (ha : a < 16) (hb : b < 16) (hc : c < 16) (hd : d < 16) : ∀ i, i < 16 → qrow s a b c d i = qrow t a b c d i := fun i hi => by
  unfold qrow upd
  rw [h a ha, h b hb, h c hc, h d hd, h i hi]
theorem dbl_congr {s t : Nat → Int} (h : ∀ i, i < 16 → s i = t i) : ∀ i, i < 16 → dbl s i = dbl t i :=
  qrow_congr (qrow_congr (qrow_congr (qrow_congr (qrow_congr (qrow_congr (qrow_congr (qrow_congr h (by decide) (by decide) (by decide) (by decide)) (by decide) (by decide) (by decide) (by decide)) (by decide) (by decide) (by decide) (by decide)) (by decide) (by decide) (by decide) (by decide)) (by decide) (by decide) (by decide) (by decide)) (by decide) (by decide) (by decide) (by decide)) (by decide) (by decide) (by decide) (by decide)) (by decide) (by decide) (by decide) (by decide)
theorem rnds_congr {s t : Nat → Int} (h : ∀ i, i < 16 → s i = t i) : ∀ k i, i < 16 → rnds s k i = rnds t k i
  | 0 => h
  | k + 1 => dbl_congr (rnds_congr h k)
theorem blk_congr {s t : Nat → Int} (h : ∀ i, i < 16 → s i = t i) : blk s = blk t := pw_congr (fun i hi => by unfold bsum; rw [rnds_congr h 10 i hi, h i hi])
theorem heap_a4 (w : World) (A B C D : Obj) : ((((w.alloc A).alloc B).alloc C).alloc D).heap[w.heap.size + 1 + 1 + 1]? = some D := by
  have h := heap_alloc_new (((w.alloc A).alloc B).alloc C) D
  have e : (((w.alloc A).alloc B).alloc C).heap.size = w.heap.size + 1 + 1 + 1 := by simp
  rwa [e] at h
set_option maxHeartbeats 4000000 in
set_option maxRecDepth 100000 in
theorem rBlock_run (key nonce : Nat → Int) (c : Int) (w : World) (hk : Byts 32 key) (hn : Byts 12 nonce) (hc : W32 c) :
    Calls Try.prog 12 #[.agg (WA .u8 32 key), .int .u32 c, .agg (WA .u8 12 nonce)] w fun e w' => e = .returned (.agg (WA .u8 64 (blk (ssq key c nonce 3)))) ∧ Below w.heap.size w w' := by
  have HP : Hid (blk (ssq key c nonce 3) = pw (bsum (rsq key (inB c nonce))) 16) := Hid.mk (blk_congr (fun i hi => (rsq_ssq key nonce c hc i hi).symm))
  rw [HP.out]
  clear HP
  have hI := inB_byts (c := c) hn
  have hW := rsq_w hk hI
  have hS := fun w => rsquare_run key (inB c nonce) w hk hI
  generalize rsq key (inB c nonce) = s at *
  go_enter Try.func12, Try.ntmps12
  go_wp2_with fail
  have g0 : ArrAt ((((w.alloc (.cells (WA .u8 32 key) 29)).alloc (.cells (WA .u8 12 nonce) 30)).alloc (.cells (WA .u8 64 fun _ => 0) 33)).alloc (.cells (WA .u8 16 fun _ => 0) 31)) w.heap.size .u8 29 32 key := ArrAt.alloc (heap_a31 w _ _ _) _
  have g1 : ArrAt ((((w.alloc (.cells (WA .u8 32 key) 29)).alloc (.cells (WA .u8 12 nonce) 30)).alloc (.cells (WA .u8 64 fun _ => 0) 33)).alloc (.cells (WA .u8 16 fun _ => 0) 31)) (w.heap.size + 1) .u8 30 12 nonce := ArrAt.alloc (heap_a32 w _ _ _) _
  have g2 : ArrAt ((((w.alloc (.cells (WA .u8 32 key) 29)).alloc (.cells (WA .u8 12 nonce) 30)).alloc (.cells (WA .u8 64 fun _ => 0) 33)).alloc (.cells (WA .u8 16 fun _ => 0) 31)) (w.heap.size + 1 + 1) .u8 33 64 (fun _ => 0) := ArrAt.alloc (heap_a3 w _ _ _) _
  have g3 : ArrAt ((((w.alloc (.cells (WA .u8 32 key) 29)).alloc (.cells (WA .u8 12 nonce) 30)).alloc (.cells (WA .u8 64 fun _ => 0) 33)).alloc (.cells (WA .u8 16 fun _ => 0) 31)) (w.heap.size + 1 + 1 + 1) .u8 31 16 (fun _ => 0) := heap_a4 w _ _ _ _
  have hB : Below w.heap.size w ((((w.alloc (.cells (WA .u8 32 key) 29)).alloc (.cells (WA .u8 12 nonce) 30)).alloc (.cells (WA .u8 64 fun _ => 0) 33)).alloc (.cells (WA .u8 16 fun _ => 0) 31)) := ((((Below.refl _ w).alloc (by simp) _).alloc (by simp) _).alloc (by simp; omega) _).alloc (by simp; omega) _
  refine wp_gen (fun v => ArrAt v w.heap.size .u8 29 32 key ∧ ArrAt v (w.heap.size + 1) .u8 30 12 nonce ∧ ArrAt v (w.heap.size + 1 + 1) .u8 33 64 (fun _ => 0) ∧ ArrAt v (w.heap.size + 1 + 1 + 1) .u8 31 16 (fun _ => 0) ∧ Below w.heap.size w v) ⟨g0, g1, g2, g3, hB⟩ ?_
  clear g0 g1 g2 g3 hB
  rintro v0 ⟨g0, g1, g2, g3, hB⟩
  refine wp_region3 (Below w.heap.size w) v0.heap.size
    [(w.heap.size, fixd (WA .u8 32 key) 29), ((w.heap.size + 1), fixd (WA .u8 12 nonce) 30), ((w.heap.size + 1 + 1), fixd (WA .u8 64 (fun _ => 0)) 33), ((w.heap.size + 1 + 1 + 1), once (WA .u8 16 (fun _ => 0)) 31 4 (WA .u8 16 (over (fun _ => 0) 0 4 (b4 c))))]
    [kv (.slice (some ⟨(w.heap.size + 1 + 1 + 1), 0, none⟩) 16 16), kv (.int .u32 c), kv (.int .i64 c), ks 4 (WA .u8 4 (b4 (c))) 5, .val fun _ => True]
    [.none, .none, .none, .none, .base 3 1]
    [some 12, some 13, some 14, some 15, some 16]
    [(1, .int .u32 c), (7, .pointer (some ⟨(w.heap.size + 1 + 1 + 1), 0, none⟩))]
    [[], [], [.slot 1], [.slot 2], [.slot 0, .slot 3, .cont 3 0, .base 3 0]]
    [.base 0 0, .base 1 0, .base 2 0, .base 3 1] [12, 13, 14, 15, 16]
    rfl (by kernel_rfl) ⟨rfl, rfl, trivial⟩ (Below.drew hB) (Nat.le_refl _) ⟨⟨g0.lt, obIn g0⟩, ⟨g1.lt, obIn g1⟩, ⟨g2.lt, obIn g2⟩, ⟨g3.lt, obIn g3⟩, trivial⟩ ⟨⟨trivial, trivial, (show (w.heap.size : Nat) ≠ (w.heap.size + 1 + 1 + 1) from by omega), trivial⟩, ⟨trivial, (show ((w.heap.size + 1) : Nat) ≠ (w.heap.size + 1 + 1 + 1) from by omega), trivial⟩, ⟨(show ((w.heap.size + 1 + 1) : Nat) ≠ (w.heap.size + 1 + 1 + 1) from by omega), trivial⟩, trivial, trivial⟩ (below_G hB.size ⟨by omega, by omega, by omega, by omega, trivial⟩)
    ⟨
      -- 0
      (fun Q aq ww own hS hBg fr kn => .inl ⟨trivial, fun K hK => wp_value (exec_sl rfl fr.2.1 (sl16 _ _)) (hK _ _ ⟨Touch.refl _ _, rfl⟩)⟩),
      -- 1
      (fun Q aq ww own hS hBg fr kn => .inl ⟨trivial, fun K hK => wp_value (exec_move rfl fr.1) (hK _ _ ⟨Touch.refl _ _, rfl⟩)⟩),
      -- 2
      (fun Q aq ww own hS hBg fr kn => .inl ⟨trivial, fun K hK => wp_value (exec_conv rfl kn.1 (conv32 hc _)) (hK _ _ ⟨Touch.refl _ _, rfl⟩)⟩),
      -- 3
      (fun Q aq ww own hS hBg fr kn => .inl ⟨trivial, fun K hK => stepp enterBytes rfl (args1 kn.1) ((rbytes_run (c) ww hc).mono (fun e w' ⟨he, h1, h2⟩ => ⟨_, he, rfl, h1, h2⟩)) (R := fun u w' => u = .slice (some ⟨ww.heap.size, 0, none⟩) 4 4 ∧ ArrAt w' ww.heap.size .u8 5 4 (b4 (c)) ∧ Below ww.heap.size ww w') (fun v w' ⟨hv, h1, h2⟩ => hK _ _ ⟨touch_below h2, ww.heap.size, Nat.le_refl _, hv, obIn h1⟩)⟩),
      -- 4
      (fun Q aq ww own hS hBg fr kn => .inl ⟨trivial, fun K hK => act_copy rfl kn.1 kn.2.1.1 (obAt kn.2.2.2.1) (m := 4) rfl (by omega) (fun q hq => by rw [Nat.zero_add]; exact ArrAt.cell (obAt kn.2.2.1) q hq) (fun w2 hg ho => hK _ _ ⟨⟨touch_only ho, obIn (hg)⟩, trivial⟩)⟩),
      trivial⟩ ?_
  intro vs own v1 hB1 hs1 kn inj
  clear inj hs1 g0 g1 g2 g3 hB
  have g0 := obAt kn.1
  have g1 := obAt kn.2.1
  have g2 := obAt kn.2.2.1
  have g3 := obAt kn.2.2.2.1
  clear kn
  simp only [putAll, Act.put, List.setIfInBounds_toArray, List.set_cons_zero, List.set_cons_succ]
  go_wp2_with fail
  refine wp_region3 (Below w.heap.size w) v1.heap.size
    [(w.heap.size, fixd (WA .u8 32 key) 29), ((w.heap.size + 1), fixd (WA .u8 12 nonce) 30), ((w.heap.size + 1 + 1), fixd (WA .u8 64 (fun _ => 0)) 33), ((w.heap.size + 1 + 1 + 1), once (WA .u8 16 (over (fun _ => 0) 0 4 (b4 c))) 31 2 (WA .u8 16 (inB c nonce)))]
    [kv (.slice (some ⟨(w.heap.size + 1 + 1 + 1), 4, none⟩) 12 12), kv (.slice (some ⟨(w.heap.size + 1), 0, none⟩) 12 12), .val fun _ => True]
    [.none, .none, .base 3 1]
    [some 17, some 18, some 19]
    [(5, .pointer (some ⟨(w.heap.size + 1), 0, none⟩)), (7, .pointer (some ⟨(w.heap.size + 1 + 1 + 1), 0, none⟩))]
    [[], [], [.slot 0, .slot 1, .base 3 0, .base 1 0]]
    [.base 0 0, .base 2 0, .base 3 1] [17, 18, 19]
    rfl (by kernel_rfl) ⟨rfl, rfl, trivial⟩ (Below.drew hB1) (Nat.le_refl _) ⟨⟨heap_lt g0, obIn g0⟩, ⟨heap_lt g1, obIn g1⟩, ⟨heap_lt g2, obIn g2⟩, ⟨heap_lt g3, obIn g3⟩, trivial⟩ ⟨⟨trivial, trivial, (show (w.heap.size : Nat) ≠ (w.heap.size + 1 + 1 + 1) from by omega), trivial⟩, ⟨trivial, (show ((w.heap.size + 1) : Nat) ≠ (w.heap.size + 1 + 1 + 1) from by omega), trivial⟩, ⟨(show ((w.heap.size + 1 + 1) : Nat) ≠ (w.heap.size + 1 + 1 + 1) from by omega), trivial⟩, trivial, trivial⟩ (below_G hB1.size ⟨by omega, by omega, by omega, by omega, trivial⟩)
    ⟨
      -- 0
      (fun Q aq ww own hS hBg fr kn => .inl ⟨trivial, fun K hK => wp_value (exec_slL rfl fr.2.1 rfl (sl16L _ _)) (hK _ _ ⟨Touch.refl _ _, rfl⟩)⟩),
      -- 1
      (fun Q aq ww own hS hBg fr kn => .inl ⟨trivial, fun K hK => wp_value (exec_sl rfl fr.1 (sl12 _ _)) (hK _ _ ⟨Touch.refl _ _, rfl⟩)⟩),
      -- 2
      (fun Q aq ww own hS hBg fr kn => .inl ⟨trivial, fun K hK => act_copy rfl kn.1 kn.2.1 (obAt kn.2.2.1) (m := 12) rfl (by omega) (fun q hq => by rw [Nat.zero_add]; exact ArrAt.cell (obAt kn.2.2.2.1) q hq) (fun w2 hg ho => hK _ _ ⟨⟨touch_only ho, obIn hg⟩, trivial⟩)⟩),
      trivial⟩ ?_
  intro vs2 own2 v2 hB2 hs2 kn inj
  clear inj hs2 g0 g1 g2 g3 hB1
  have g0 : ArrAt v2 w.heap.size .u8 29 32 key := obAt kn.1
  have g2 : ArrAt v2 (w.heap.size + 1 + 1) .u8 33 64 (fun _ => 0) := obAt kn.2.1
  have g3 : ArrAt v2 (w.heap.size + 1 + 1 + 1) .u8 31 16 (inB c nonce) := obAt kn.2.2.1
  clear kn
  simp only [putAll, Act.put, List.setIfInBounds_toArray, List.set_cons_zero, List.set_cons_succ]
  go_wp2_with (first | (refine ld_arr isArr32 g0 (by rfl) ?_) | (refine ld_arr isArr16 g3 (by rfl) ?_))
  refine (hS _).mono ?_
  rintro e v3 ⟨bs, cs, rfl, hcs, hbs, rs, hb3⟩
  have hz2 := g2.lt
  replace g2 := g2.kept hb3
  replace hB2 := hB2.trans (hb3.mono hB2.size)
  have hz3 : w.heap.size + 1 + 1 < bs := by omega
  clear g0 g3 hb3 hS hI
  go_wp2_with fail
  refine (twenty_run s bs cs _ rs hW).mono ?_
  rintro e v4 ⟨bt, ct, rfl, hct, hbt, rt, hb4⟩
  replace g2 := g2.kept hb4
  have hz4 : bs < bt := Nat.lt_of_lt_of_le rs.lt hbt
  replace rs := rs.below hb4 rs.lt
  replace hB2 := hB2.trans (hb4.mono hB2.size)
  clear hb4
  have HE : Hid (∀ i, addw (s i) (rnds s 10 i) = bsum s i) := Hid.mk (fun i => by unfold bsum addw; rw [Int.add_comm])
  have W1 := rnds_w hW 10
  generalize rnds s 10 = t at *
  go_wp2_with fail
  have hz5 := rt.lt
  go_loopg [11] 16 (fun m i v => ∃ k : Nat, Hid (m + k = 16) ∧ i = .int .i64 k ∧ ArrAt v (w.heap.size + 1 + 1) .u8 33 64 (fun _ => 0) ∧ RowAt v bs .i64 3 16 s ∧ RowAt v bt .i64 3 16 t ∧ ArrAt v v4.heap.size .u8 33 64 (pw (bsum s) k) ∧ Below w.heap.size w v)
  case atStart => exact ⟨0, Hid.mk rfl, rfl, g2.alloc _, rs.alloc _, rt.alloc _, heap_alloc_new v4 _, hB2.alloc hB2.size _⟩
  case round =>
    clear g2 rs rt hB2
    obtain ⟨k, HK, rfl, g2, rs, rt, g4, hB⟩ := hrel
    generalize v4.heap.size = B4 at *
    have hk16 : k ≤ 16 := by have := HK.out; omega
    by_cases hlt : k < 16
    · go_wp2_with fail
      refine wp_region3 (Below w.heap.size w) wr.heap.size
        [((w.heap.size + 1 + 1), fixd (WA .u8 64 (fun _ => 0)) 33), (bs, ⟨rowOb .i64 3 16 s, []⟩), (bt, ⟨rowOb .i64 3 16 t, []⟩), (B4, once (WA .u8 64 (pw (bsum s) k)) 33 14 (WA .u8 64 (pw (bsum s) (k + 1))))]
        [kv (.int .i64 (k : Int)), kv (.int .i64 (4 * (k : Int))), kv (.slice (some ⟨B4, 4 * k, none⟩) (64 - 4 * k) (64 - 4 * k)), kv (.slice (some ⟨bs, 0, none⟩) 16 cs), kv (.int .i64 (k : Int)), kv (.pointer (some ⟨bs, 0 + k, none⟩)), kv (.int .i64 (s k)), kv (.slice (some ⟨bt, 0, none⟩) 16 ct), kv (.int .i64 (k : Int)), kv (.pointer (some ⟨bt, 0 + k, none⟩)), kv (.int .i64 (t k)), kv (.int .i64 (s k + t k)), kv (.int .i64 (bsum s k)), ks 4 (WA .u8 4 (b4 (bsum s k))) 5, .val fun _ => True]
        [.none, .none, .none, .none, .none, .none, .none, .none, .none, .none, .none, .none, .none, .none, .base 3 1]
        [some 29, some 30, some 31, some 32, some 33, some 34, some 35, some 36, some 37, some 38, some 39, some 40, some 41, some 42, some 43]
        [(8, .slice (some ⟨bs, 0, none⟩) 16 cs), (9, .slice (some ⟨bt, 0, none⟩) 16 ct), (10, .pointer (some ⟨B4, 0, none⟩)), (11, .int .i64 (k : Int))]
        [[], [.slot 0], [.slot 1], [], [], [.slot 3, .slot 4], [.slot 5, .base 1 0], [], [], [.slot 7, .slot 8], [.slot 9, .base 2 0], [.slot 6, .slot 10], [.slot 11], [.slot 12], [.slot 2, .slot 13, .cont 13 0, .base 3 0]]
        [.base 0 0, .base 1 0, .base 2 0, .base 3 1] [29, 30, 31, 32, 33, 34, 35, 36, 37, 38, 39, 40, 41, 42, 43]
        rfl (by kernel_rfl) ⟨rfl, rfl, rfl, rfl, trivial⟩ (Below.drew hB) (Nat.le_refl _) ⟨⟨g2.lt, obIn g2⟩, ⟨rs.lt, rs⟩, ⟨rt.lt, rt⟩, ⟨g4.lt, obIn g4⟩, trivial⟩ ⟨⟨trivial, trivial, (show ((w.heap.size + 1 + 1) : Nat) ≠ B4 from by omega), trivial⟩, ⟨trivial, (show (bs : Nat) ≠ B4 from by omega), trivial⟩, ⟨(show (bt : Nat) ≠ B4 from by omega), trivial⟩, trivial, trivial⟩ (below_G hB.size ⟨by omega, by omega, by omega, by omega, trivial⟩)
        ⟨
          -- 0
          (fun Q aq ww own hS hBg fr kn => .inl ⟨trivial, fun K hK => wp_value (exec_move rfl fr.2.2.2.1) (hK _ _ ⟨Touch.refl _ _, rfl⟩)⟩),
          -- 1
          (fun Q aq ww own hS hBg fr kn => .inl ⟨trivial, fun K hK => wp_value (exec_mul rfl rfl kn.1 (by omega) (by omega)) (hK _ _ ⟨Touch.refl _ _, rfl⟩)⟩),
          -- 2
          (fun Q aq ww own hS hBg fr kn => .inl ⟨trivial, fun K hK => wp_value (exec_slL rfl fr.2.2.1 kn.1 (sl64L _ _ _ hlt)) (hK _ _ ⟨Touch.refl _ _, rfl⟩)⟩),
          -- 3
          (fun Q aq ww own hS hBg fr kn => .inl ⟨trivial, fun K hK => wp_value (exec_move rfl fr.1) (hK _ _ ⟨Touch.refl _ _, rfl⟩)⟩),
          -- 4
          (fun Q aq ww own hS hBg fr kn => .inl ⟨trivial, fun K hK => wp_value (exec_move rfl fr.2.2.2.1) (hK _ _ ⟨Touch.refl _ _, rfl⟩)⟩),
          -- 5
          (fun Q aq ww own hS hBg fr kn => .inl ⟨trivial, fun K hK => wp_value (exec_idx rfl Try.underlying23 size_int kn.1 kn.2.1 hlt) (hK _ _ ⟨Touch.refl _ _, rfl⟩)⟩),
          -- 6
          (fun Q aq ww own hS hBg fr kn => .inl ⟨trivial, fun K hK => wp_value (exec_ld rfl kn.1 (load_int (cell0 kn.2.1 hlt))) (hK _ _ ⟨Touch.refl _ _, rfl⟩)⟩),
          -- 7
          (fun Q aq ww own hS hBg fr kn => .inl ⟨trivial, fun K hK => wp_value (exec_move rfl fr.2.1) (hK _ _ ⟨Touch.refl _ _, rfl⟩)⟩),
          -- 8
          (fun Q aq ww own hS hBg fr kn => .inl ⟨trivial, fun K hK => wp_value (exec_move rfl fr.2.2.2.1) (hK _ _ ⟨Touch.refl _ _, rfl⟩)⟩),
          -- 9
          (fun Q aq ww own hS hBg fr kn => .inl ⟨trivial, fun K hK => wp_value (exec_idx rfl Try.underlying23 size_int kn.1 kn.2.1 hlt) (hK _ _ ⟨Touch.refl _ _, rfl⟩)⟩),
          -- 10
          (fun Q aq ww own hS hBg fr kn => .inl ⟨trivial, fun K hK => wp_value (exec_ld rfl kn.1 (load_int (cell0 kn.2.1 hlt))) (hK _ _ ⟨Touch.refl _ _, rfl⟩)⟩),
          -- 11
          (fun Q aq ww own hS hBg fr kn => .inl ⟨trivial, fun K hK => wp_value (exec_add rfl kn.1 kn.2.1 (sum_lo (hW k hlt) (W1 k hlt)) (sum_hi (hW k hlt) (W1 k hlt))) (hK _ _ ⟨Touch.refl _ _, rfl⟩)⟩),
          -- 12
          (fun Q aq ww own hS hBg fr kn => .inl ⟨trivial, fun K hK => wp_value (exec_rem rfl kn.1 (sum_nn (hW k hlt) (W1 k hlt)) (sum_hi (hW k hlt) (W1 k hlt))) (hK _ _ ⟨Touch.refl _ _, congrArg (Value.int .i64) (HE.out k)⟩)⟩),
          -- 13
          (fun Q aq ww own hS hBg fr kn => .inl ⟨trivial, fun K hK => stepp enterBytes rfl (args1 kn.1) ((rbytes_run (bsum s k) ww (by rw [← HE.out k]; exact addw_w _ _)).mono (fun e w' ⟨he, h1, h2⟩ => ⟨_, he, rfl, h1, h2⟩)) (R := fun u w' => u = .slice (some ⟨ww.heap.size, 0, none⟩) 4 4 ∧ ArrAt w' ww.heap.size .u8 5 4 (b4 (bsum s k)) ∧ Below ww.heap.size ww w') (fun v w' ⟨hv, h1, h2⟩ => hK _ _ ⟨touch_below h2, ww.heap.size, Nat.le_refl _, hv, obIn h1⟩)⟩),
          -- 14
          (fun Q aq ww own hS hBg fr kn => .inl ⟨trivial, fun K hK => act_copy rfl kn.1 kn.2.1.1 (obAt kn.2.2.2.1) (m := 4) (by show 4 = min 4 (64 - 4 * k); omega) (by omega) (fun q hq => by rw [Nat.zero_add]; exact ArrAt.cell (obAt kn.2.2.1) q hq) (fun w2 hg ho => hK _ _ ⟨⟨touch_only ho, obIn ((show _ = _ from by rw [show pw (bsum s) (k + 1) = over (pw (bsum s) k) (4 * k) 4 (b4 (bsum s k)) from (over_putw _ _ _).symm]; exact hg))⟩, trivial⟩)⟩),
          trivial⟩ ?_
      intro vs5 own5 v5 hB5 hs5 kn inj
      clear inj
      have G2 : ArrAt v5 (w.heap.size + 1 + 1) .u8 33 64 (fun _ => 0) := obAt kn.1
      have Rs : RowAt v5 bs .i64 3 16 s := kn.2.1
      have Rt : RowAt v5 bt .i64 3 16 t := kn.2.2.1
      have G4 : ArrAt v5 B4 .u8 33 64 (pw (bsum s) (k + 1)) := obAt kn.2.2.2.1
      simp only [putAll, Act.put, List.setIfInBounds_toArray, List.set_cons_zero, List.set_cons_succ]
      go_wp2_with fail
      go_roundg (16 - (k + 1))
      case rel => exact ⟨k + 1, Hid.mk (by omega), by go_num, G2, Rs, Rt, G4, hB5⟩
      case measure => have := HK.out; omega
    · have hk2 : k = 16 := by omega
      subst hk2
      clear hlt hk16 HK
      go_wp2_with (first | (refine ld_arr isArr64 g4 (by rfl) ?_) | (refine st_arr isArr64 g2 (by rfl) (by rfl) ?_; intro v6 g5 o5))
      exact bodyPost_ret (v := .agg (WA .u8 64 (pw (bsum s) 16))) (res_arr rfl isArr64 g5 rfl) rfl ⟨rfl, hB.trans (o5.below (by omega))⟩
end Go.Proofs.Ytfgebcemdjplnaa
