/-
  Own text. What Derive of the document's answer gives: the same.
-/
import Derived.Test.YtfgebcemdjplnaaB8
namespace Go.Proofs.Ytfgebcemdjplnaa
open Go.RowKit Go.Proofs
set_option maxHeartbeats 4000000 in
set_option maxRecDepth 100000 in
theorem rDerive_run (key inn : Nat → Int) (w : World) (hk : Byts 32 key) (hi : Byts 16 inn) :
    Calls Try.prog 14 #[.agg (WA .u8 32 key), .agg (WA .u8 16 inn)] w fun e w' => e = .returned (.agg (WA .u8 32 (der key inn))) ∧ Below w.heap.size w w' := by
  rw [show der key inn = dv (rnds (rsq key inn) 10) 4 from dv_congr (rnds_congr (dsq_rsq key inn) 10) 4 (Nat.le_refl _)]
  have g0 : ArrAt (((w.alloc (.cells (WA .u8 32 key) 29)).alloc (.cells (WA .u8 16 inn) 31)).alloc (.cells (WA .u8 32 fun _ => 0) 29)) w.heap.size .u8 29 32 key := heap_a31 w _ _ _
  have g1 : ArrAt (((w.alloc (.cells (WA .u8 32 key) 29)).alloc (.cells (WA .u8 16 inn) 31)).alloc (.cells (WA .u8 32 fun _ => 0) 29)) (w.heap.size + 1) .u8 31 16 inn := heap_a32 w _ _ _
  have g2 : ArrAt (((w.alloc (.cells (WA .u8 32 key) 29)).alloc (.cells (WA .u8 16 inn) 31)).alloc (.cells (WA .u8 32 fun _ => 0) 29)) (w.heap.size + 1 + 1) .u8 29 32 (fun _ => 0) := heap_a3 w _ _ _
  have hB : Below w.heap.size w (((w.alloc (.cells (WA .u8 32 key) 29)).alloc (.cells (WA .u8 16 inn) 31)).alloc (.cells (WA .u8 32 fun _ => 0) 29)) := (((Below.refl _ w).alloc (by simp) _).alloc (by simp) _).alloc (by simp; omega) _
  have hW := rsq_w hk hi
  have hS := fun w => rsquare_run key inn w hk hi
  generalize rsq key inn = s at *
  go_enter Try.func14, Try.ntmps14
  go_wp2_with (first | (refine ld_arr isArr32 g0 (by rfl) ?_) | (refine ld_arr isArr16 g1 (by rfl) ?_))
  refine (hS _).mono ?_
  rintro e v3 ⟨bs, cs, rfl, hcs, hbs, rs, hb3⟩
  have hz2 := g2.lt
  replace g2 := g2.kept hb3
  replace hB := hB.trans (hb3.mono hB.size)
  have hz3 : w.heap.size + 1 + 1 < bs := Nat.lt_of_lt_of_le hz2 hbs
  clear g0 g1 hb3 hS hbs hz2
  go_wp2_with fail
  refine (twenty_run s bs cs _ rs hW).mono ?_
  rintro e v4 ⟨bt, ct, rfl, hct, hbt, rt, hb4⟩
  replace g2 := g2.kept hb4
  have hz4 : bs < bt := Nat.lt_of_lt_of_le rs.lt hbt
  replace hB := hB.trans (hb4.mono hB.size)
  clear hb4 rs
  have W1 := rnds_w hW 10
  obtain ⟨t, ht⟩ : ∃ r, rnds s 10 = r := ⟨_, rfl⟩
  have HR := Hid.mk ht
  rw [ht] at W1 rt
  clear ht
  go_wp2_with fail
  have hz5 := rt.lt
  go_loopg [7] 4 (fun m i v => ∃ k : Nat, Hid (m + k = 4) ∧ i = .int .i64 k ∧ ArrAt v (w.heap.size + 1 + 1) .u8 29 32 (fun _ => 0) ∧ RowAt v bt .i64 3 16 t ∧ ArrAt v v4.heap.size .u8 29 32 (dv t k) ∧ Below w.heap.size w v)
  case atStart => exact ⟨0, Hid.mk rfl, rfl, g2.alloc _, rt.alloc _, heap_alloc_new v4 _, hB.alloc hB.size _⟩
  case round =>
    clear g2 rt hB
    obtain ⟨k, HK, rfl, g2, rt, g4, hB⟩ := hrel
    generalize v4.heap.size = B4 at *
    have hk4 : k ≤ 4 := by have := HK.out; omega
    by_cases hlt : k < 4
    · have h16 : k < 16 := by omega
      have h16b : 12 + k < 16 := by omega
      go_wp2_with fail
      refine wp_region3 (Below w.heap.size w) wr.heap.size
        [((w.heap.size + 1 + 1), fixd (WA .u8 32 (fun _ => 0)) 29), (bt, ⟨rowOb .i64 3 16 t, []⟩), (B4, once (WA .u8 32 (dv t k)) 29 8 (WA .u8 32 (putw (dv t k) k (t k))))]
        [kv (.int .i64 (k : Int)), kv (.int .i64 ((4 * k : Nat) : Int)), kv (.slice (some ⟨B4, 4 * k, none⟩) (32 - 4 * k) (32 - 4 * k)), kv (.slice (some ⟨bt, 0, none⟩) 16 ct), kv (.int .i64 (k : Int)), kv (.pointer (some ⟨bt, 0 + k, none⟩)), kv (.int .i64 (t k)), ks 4 (WA .u8 4 (b4 (t k))) 5, .val fun _ => True]
        [.none, .none, .none, .none, .none, .none, .none, .none, .base 2 1]
        [some 16, some 17, some 18, some 19, some 20, some 21, some 22, some 23, some 24]
        [(5, .slice (some ⟨bt, 0, none⟩) 16 ct), (6, .pointer (some ⟨B4, 0, none⟩)), (7, .int .i64 (k : Int))]
        [[], [.slot 0], [.slot 1], [], [], [.slot 3, .slot 4], [.slot 5, .base 1 0], [.slot 6], [.slot 2, .slot 7, .cont 7 0, .base 2 0]]
        [.base 0 0, .base 1 0, .base 2 1] [16, 17, 18, 19, 20, 21, 22, 23, 24]
        rfl (by kernel_rfl) ⟨rfl, rfl, rfl, trivial⟩ (Below.drew hB) (Nat.le_refl _) ⟨⟨g2.lt, obIn g2⟩, ⟨rt.lt, rt⟩, ⟨g4.lt, obIn g4⟩, trivial⟩ ⟨⟨trivial, (show ((w.heap.size + 1 + 1) : Nat) ≠ B4 from by omega), trivial⟩, ⟨(show (bt : Nat) ≠ B4 from by omega), trivial⟩, trivial, trivial⟩ (below_G hB.size ⟨by omega, by omega, by omega, trivial⟩)
        ⟨
          -- 0
          (fun Q aq ww own hS hBg fr kn => .inl ⟨trivial, fun K hK => wp_value (exec_move rfl fr.2.2.1) (hK _ _ ⟨Touch.refl _ _, rfl⟩)⟩),
          -- 1
          (fun Q aq ww own hS hBg fr kn => .inl ⟨trivial, fun K hK => wp_value (exec_mul rfl rfl kn.1 (by omega) (by omega)) (hK _ _ ⟨Touch.refl _ _, rfl⟩)⟩),
          -- 2
          (fun Q aq ww own hS hBg fr kn => .inl ⟨trivial, fun K hK => wp_value (exec_slL rfl fr.2.1 kn.1 (sl32L _ _ _ (by omega))) (hK _ _ ⟨Touch.refl _ _, rfl⟩)⟩),
          -- 3
          (fun Q aq ww own hS hBg fr kn => .inl ⟨trivial, fun K hK => wp_value (exec_move rfl fr.1) (hK _ _ ⟨Touch.refl _ _, rfl⟩)⟩),
          -- 4
          (fun Q aq ww own hS hBg fr kn => .inl ⟨trivial, fun K hK => wp_value (exec_move rfl fr.2.2.1) (hK _ _ ⟨Touch.refl _ _, rfl⟩)⟩),
          -- 5
          (fun Q aq ww own hS hBg fr kn => .inl ⟨trivial, fun K hK => wp_value (exec_idx rfl Try.underlying23 size_int kn.1 kn.2.1 h16) (hK _ _ ⟨Touch.refl _ _, rfl⟩)⟩),
          -- 6
          (fun Q aq ww own hS hBg fr kn => .inl ⟨trivial, fun K hK => wp_value (exec_ld rfl kn.1 (load_int (cell0 kn.2.1 h16))) (hK _ _ ⟨Touch.refl _ _, rfl⟩)⟩),
          -- 7
          (fun Q aq ww own hS hBg fr kn => .inl ⟨trivial, fun K hK => stepp enterBytes rfl (args1 kn.1) ((rbytes_run (t k) ww (W1 k h16)).mono (fun e w' ⟨he, h1, h2⟩ => ⟨_, he, rfl, h1, h2⟩)) (R := fun u w' => u = .slice (some ⟨ww.heap.size, 0, none⟩) 4 4 ∧ ArrAt w' ww.heap.size .u8 5 4 (b4 (t k)) ∧ Below ww.heap.size ww w') (fun v w' ⟨hv, h1, h2⟩ => hK _ _ ⟨touch_below h2, ww.heap.size, Nat.le_refl _, hv, obIn h1⟩)⟩),
          -- 8
          (fun Q aq ww own hS hBg fr kn => .inl ⟨trivial, fun K hK => act_copy rfl kn.1 kn.2.1.1 (obAt kn.2.2.2.1) (m := 4) (by show 4 = min 4 (32 - 4 * k); omega) (by omega) (fun q hq => by rw [Nat.zero_add]; exact ArrAt.cell (obAt kn.2.2.1) q hq) (fun w2 hg ho => hK _ _ ⟨⟨touch_only ho, obIn ((show _ = _ from by rw [show putw (dv t k) k (t k) = over (dv t k) (4 * k) 4 (b4 (t k)) from (over_putw _ _ _).symm]; exact hg))⟩, trivial⟩)⟩),
          trivial⟩ ?_
      intro vs5 own5 v5 hB5 hs5 kn inj
      clear inj g2 rt g4 hB
      have g2 : ArrAt v5 (w.heap.size + 1 + 1) .u8 29 32 (fun _ => 0) := obAt kn.1
      have rt : RowAt v5 bt .i64 3 16 t := kn.2.1
      have g4 : ArrAt v5 B4 .u8 29 32 (putw (dv t k) k (t k)) := obAt kn.2.2.1
      clear kn hs5
      simp only [putAll, Act.put, List.setIfInBounds_toArray, List.set_cons_zero, List.set_cons_succ]
      go_wp2_with fail
      refine wp_region3 (Below w.heap.size w) v5.heap.size
        [((w.heap.size + 1 + 1), fixd (WA .u8 32 (fun _ => 0)) 29), (bt, ⟨rowOb .i64 3 16 t, []⟩), (B4, once (WA .u8 32 (putw (dv t k) k (t k))) 29 10 (WA .u8 32 (dv t (k + 1))))]
        [kv (.int .i64 (k : Int)), kv (.int .i64 ((4 * k : Nat) : Int)), kv (.int .i64 ((16 + 4 * k : Nat) : Int)), kv (.slice (some ⟨B4, 16 + 4 * k, none⟩) (32 - (16 + 4 * k)) (32 - (16 + 4 * k))), kv (.slice (some ⟨bt, 0, none⟩) 16 ct), kv (.int .i64 (k : Int)), kv (.int .i64 ((12 + k : Nat) : Int)), kv (.pointer (some ⟨bt, 0 + (12 + k), none⟩)), kv (.int .i64 (t (12 + k))), ks 4 (WA .u8 4 (b4 (t (12 + k)))) 5, .val fun _ => True]
        [.none, .none, .none, .none, .none, .none, .none, .none, .none, .none, .base 2 1]
        [some 25, some 26, some 27, some 28, some 29, some 30, some 31, some 32, some 33, some 34, some 35]
        [(5, .slice (some ⟨bt, 0, none⟩) 16 ct), (6, .pointer (some ⟨B4, 0, none⟩)), (7, .int .i64 (k : Int))]
        [[], [.slot 0], [.slot 1], [.slot 2], [], [], [.slot 5], [.slot 4, .slot 6], [.slot 7, .base 1 0], [.slot 8], [.slot 3, .slot 9, .cont 9 0, .base 2 0]]
        [.base 0 0, .base 1 0, .base 2 1] [25, 26, 27, 28, 29, 30, 31, 32, 33, 34, 35]
        rfl (by kernel_rfl) ⟨rfl, rfl, rfl, trivial⟩ (Below.drew hB5) (Nat.le_refl _) ⟨⟨g2.lt, obIn g2⟩, ⟨rt.lt, rt⟩, ⟨g4.lt, obIn g4⟩, trivial⟩ ⟨⟨trivial, (show ((w.heap.size + 1 + 1) : Nat) ≠ B4 from by omega), trivial⟩, ⟨(show (bt : Nat) ≠ B4 from by omega), trivial⟩, trivial, trivial⟩ (below_G hB5.size ⟨by omega, by omega, by omega, trivial⟩)
        ⟨
          -- 0
          (fun Q aq ww own hS hBg fr kn => .inl ⟨trivial, fun K hK => wp_value (exec_move rfl fr.2.2.1) (hK _ _ ⟨Touch.refl _ _, rfl⟩)⟩),
          -- 1
          (fun Q aq ww own hS hBg fr kn => .inl ⟨trivial, fun K hK => wp_value (exec_mul rfl rfl kn.1 (by omega) (by omega)) (hK _ _ ⟨Touch.refl _ _, rfl⟩)⟩),
          -- 2
          (fun Q aq ww own hS hBg fr kn => .inl ⟨trivial, fun K hK => wp_value (exec_add rfl rfl kn.1 (by omega) (by omega)) (hK _ _ ⟨Touch.refl _ _, rfl⟩)⟩),
          -- 3
          (fun Q aq ww own hS hBg fr kn => .inl ⟨trivial, fun K hK => wp_value (exec_slL rfl fr.2.1 kn.1 (sl32L _ _ _ (by omega))) (hK _ _ ⟨Touch.refl _ _, rfl⟩)⟩),
          -- 4
          (fun Q aq ww own hS hBg fr kn => .inl ⟨trivial, fun K hK => wp_value (exec_move rfl fr.1) (hK _ _ ⟨Touch.refl _ _, rfl⟩)⟩),
          -- 5
          (fun Q aq ww own hS hBg fr kn => .inl ⟨trivial, fun K hK => wp_value (exec_move rfl fr.2.2.1) (hK _ _ ⟨Touch.refl _ _, rfl⟩)⟩),
          -- 6
          (fun Q aq ww own hS hBg fr kn => .inl ⟨trivial, fun K hK => wp_value (exec_add rfl rfl kn.1 (by omega) (by omega)) (hK _ _ ⟨Touch.refl _ _, rfl⟩)⟩),
          -- 7
          (fun Q aq ww own hS hBg fr kn => .inl ⟨trivial, fun K hK => wp_value (exec_idx rfl Try.underlying23 size_int kn.1 kn.2.1 h16b) (hK _ _ ⟨Touch.refl _ _, rfl⟩)⟩),
          -- 8
          (fun Q aq ww own hS hBg fr kn => .inl ⟨trivial, fun K hK => wp_value (exec_ld rfl kn.1 (load_int (cell0 kn.2.1 h16b))) (hK _ _ ⟨Touch.refl _ _, rfl⟩)⟩),
          -- 9
          (fun Q aq ww own hS hBg fr kn => .inl ⟨trivial, fun K hK => stepp enterBytes rfl (args1 kn.1) ((rbytes_run (t (12 + k)) ww (W1 (12 + k) h16b)).mono (fun e w' ⟨he, h1, h2⟩ => ⟨_, he, rfl, h1, h2⟩)) (R := fun u w' => u = .slice (some ⟨ww.heap.size, 0, none⟩) 4 4 ∧ ArrAt w' ww.heap.size .u8 5 4 (b4 (t (12 + k))) ∧ Below ww.heap.size ww w') (fun v w' ⟨hv, h1, h2⟩ => hK _ _ ⟨touch_below h2, ww.heap.size, Nat.le_refl _, hv, obIn h1⟩)⟩),
          -- 10
          (fun Q aq ww own hS hBg fr kn => .inl ⟨trivial, fun K hK => act_copy rfl kn.1 kn.2.1.1 (obAt kn.2.2.2.1) (m := 4) (by show 4 = min 4 (32 - (16 + 4 * k)); omega) (by omega) (fun q hq => by rw [Nat.zero_add]; exact ArrAt.cell (obAt kn.2.2.1) q hq) (fun w2 hg ho => hK _ _ ⟨⟨touch_only ho, obIn ((show _ = _ from by rw [show dv t (k + 1) = over (putw (dv t k) k (t k)) (16 + 4 * k) 4 (b4 (t (12 + k))) from by rw [show 16 + 4 * k = 4 * (4 + k) by omega]; exact (over_putw _ _ _).symm]; exact hg))⟩, trivial⟩)⟩),
          trivial⟩ ?_
      intro vs6 own6 v6 hB6 hs6 kn inj
      clear inj g2 rt g4 hB5
      have g2 : ArrAt v6 (w.heap.size + 1 + 1) .u8 29 32 (fun _ => 0) := obAt kn.1
      have rt : RowAt v6 bt .i64 3 16 t := kn.2.1
      have g4 : ArrAt v6 B4 .u8 29 32 (dv t (k + 1)) := obAt kn.2.2.1
      clear kn hs6
      simp only [putAll, Act.put, List.setIfInBounds_toArray, List.set_cons_zero, List.set_cons_succ]
      go_wp2_with fail
      go_roundg (4 - (k + 1))
      case rel => exact ⟨k + 1, Hid.mk (by omega), by go_num, g2, rt, g4, hB6⟩
      case measure => have := HK.out; omega
    · have hk2 : k = 4 := by omega
      subst hk2
      clear hlt hk4 HK
      rw [← HR.out] at g4
      go_wp2_with (first | (refine ld_arr isArr32 g4 (by rfl) ?_) | (refine st_arr isArr32 g2 (by rfl) (by rfl) ?_; intro v6 g5 o5))
      exact bodyPost_ret (v := .agg (WA .u8 32 (dv (rnds s 10) 4))) (res_arr rfl isArr32 g5 rfl) rfl ⟨rfl, hB.trans (o5.below (by omega))⟩
end Go.Proofs.Ytfgebcemdjplnaa
