/-
  Own text. What Derive of package chacha gives.
-/
import Derived.Test.YtfgebcemdjplnaaC5
namespace Go.Proofs.Ytfgebcemdjplnaa
open Go.RowKit Go.Proofs
/-- The square of a key and of k words. -/
def dsq (key inn : Nat → Int) (k : Nat) (i : Nat) : Int := if 12 ≤ i ∧ i < 12 + k then wrd inn (i - 12) else ksq key 12 i
theorem dsq_0 (key inn : Nat → Int) : dsq key inn 0 = ksq key 12 := by
  funext i
  unfold dsq
  rw [if_neg (by omega)]
theorem dsq_step (key inn : Nat → Int) (k : Nat) : upd (dsq key inn k) (12 + k) (wrd inn k) = dsq key inn (k + 1) := by
  funext i
  unfold upd dsq
  by_cases e : i = 12 + k
  · subst e; rw [if_pos rfl, if_pos (by omega)]; congr 1; omega
  · rw [if_neg e]
    by_cases h : 12 ≤ i ∧ i < 12 + k
    · rw [if_pos h, if_pos (by omega)]
    · rw [if_neg h, if_neg (by omega)]
theorem dsq_w {key inn : Nat → Int} (hk : Byts 32 key) (hi : Byts 16 inn) : ∀ i, i < 16 → W32 (dsq key inn 4 i) := fun i h => by
  unfold dsq
  split
  · exact wrd_w hi (by omega)
  · exact ksq_w hk 12 i (by omega)
theorem dsq_rsq (key inn : Nat → Int) : ∀ i, i < 16 → dsq key inn 4 i = rsq key inn i := fun i h => by
  unfold dsq
  split
  · rw [rsq_high _ _ _ (by omega)]
  · rw [rsq_low _ _ _ (by omega)]
/-- The bytes of the key that is derived, 2 k words of it. -/
def dv (f : Nat → Int) : Nat → Nat → Int
  | 0 => fun _ => 0
  | k + 1 => putw (putw (dv f k) k (f k)) (4 + k) (f (12 + k))
theorem dv_congr {f g : Nat → Int} (h : ∀ i, i < 16 → f i = g i) : ∀ k, k ≤ 4 → dv f k = dv g k
  | 0, _ => rfl
  | k + 1, hk => by unfold dv; rw [dv_congr h k (by omega), h k (by omega), h (12 + k) (by omega)]
def der (key inn : Nat → Int) : Nat → Int := dv (rnds (dsq key inn 4) 10) 4
set_option maxHeartbeats 4000000 in
set_option maxRecDepth 100000 in
theorem Derive_run (key inn : Nat → Int) (w : World) (hk : Byts 32 key) (hi : Byts 16 inn) :
    Calls Try.prog 13 #[.agg (WA .u8 32 key), .agg (WA .u8 16 inn)] w fun e w' => e = .returned (.agg (WA .u8 32 (der key inn))) ∧ Below w.heap.size w w' := by
  unfold der
  have g0 : ArrAt (((w.alloc (.cells (WA .u8 32 key) 29)).alloc (.cells (WA .u8 16 inn) 31)).alloc (.cells (WA .u8 32 fun _ => 0) 29)) w.heap.size .u8 29 32 key := heap_a31 w _ _ _
  have g1 : ArrAt (((w.alloc (.cells (WA .u8 32 key) 29)).alloc (.cells (WA .u8 16 inn) 31)).alloc (.cells (WA .u8 32 fun _ => 0) 29)) (w.heap.size + 1) .u8 31 16 inn := heap_a32 w _ _ _
  have g2 : ArrAt (((w.alloc (.cells (WA .u8 32 key) 29)).alloc (.cells (WA .u8 16 inn) 31)).alloc (.cells (WA .u8 32 fun _ => 0) 29)) (w.heap.size + 1 + 1) .u8 29 32 (fun _ => 0) := heap_a3 w _ _ _
  have hB : Below w.heap.size w (((w.alloc (.cells (WA .u8 32 key) 29)).alloc (.cells (WA .u8 16 inn) 31)).alloc (.cells (WA .u8 32 fun _ => 0) 29)) := (((Below.refl _ w).alloc (by simp) _).alloc (by simp) _).alloc (by simp; omega) _
  go_enter Try.func13, Try.ntmps13
  go_wp2_with (first | (refine ld_arr isArr32 g0 (by rfl) ?_))
  refine (keySquare_run key _ hk).mono ?_
  rintro e v1 ⟨rfl, hb⟩
  replace g1 := g1.kept hb
  replace g2 := g2.kept hb
  replace hB := hB.trans (hb.mono hB.size)
  clear hb g0
  go_wp2_with (first | (refine st_arr (s' := fun _ => 0) (k' := .u32) isSq (heap_alloc_new v1 _) (by rfl) (by rfl) ?_; intro v2 g3 o3; refine Hid.out ?_))
  have hs1 := g2.lt
  replace g1 := (g1.alloc _).only o3 (Nat.ne_of_lt g1.lt)
  replace g2 := (g2.alloc _).only o3 (Nat.ne_of_lt g2.lt)
  replace hB := (hB.alloc hB.size _).trans (o3.below hB.size)
  clear o3
  generalize v1.heap.size = B3 at *
  rw [← dsq_0 key inn] at g3
  refine Hid.mk ?_
  go_wp2_with fail
  go_loopg [11] 4 (fun m i v => ∃ k : Nat, Hid (m + k = 4) ∧ i = .int .i64 k ∧ ArrAt v (w.heap.size + 1) .u8 31 16 inn ∧ ArrAt v (w.heap.size + 1 + 1) .u8 29 32 (fun _ => 0) ∧ ArrAt v B3 .u32 44 16 (dsq key inn k) ∧ Below w.heap.size w v)
  case atStart => exact ⟨0, Hid.mk rfl, rfl, g1, g2, g3, hB⟩
  case round =>
    clear g1 g2 g3 hB
    obtain ⟨k, HK, rfl, g1, g2, g3, hB⟩ := hrel
    have hk4 : k ≤ 4 := by have := HK.out; omega
    by_cases hlt : k < 4
    · go_wp2_with fail
      refine (wordAt_run (w.heap.size + 1) 16 16 inn k _ g1.row hi (by omega) (by omega) (by omega)).mono ?_
      rintro e v3 ⟨rfl, hb⟩
      replace g1 := g1.kept hb
      replace g2 := g2.kept hb
      replace g3 := g3.kept hb
      replace hB := hB.trans (hb.mono hB.size)
      clear hb
      have c3 := g3.cell (12 + k) (by omega)
      have f3 := g3.free (12 + k)
      go_wp2_with fail
      go_roundg (4 - (k + 1))
      case rel => exact ⟨k + 1, Hid.mk (by omega), by go_num, g1.other _ (by omega), g2.other _ (by omega), by rw [← dsq_step key inn k]; exact g3.set (12 + k) _ (by omega), Below.setCell hB (by simp; omega) _⟩
      case measure => have := HK.out; omega
    · have hk2 : k = 4 := by omega
      subst hk2
      clear hlt hk4 HK g1
      go_wp2_with (first | (refine ld_arr isSq g3 (by rfl) ?_))
      refine (rounds_run _ _ (dsq_w hk hi)).mono ?_
      rintro e v3 ⟨rfl, hb⟩
      replace g2 := g2.kept hb
      replace g3 := g3.kept hb
      replace hB := hB.trans (hb.mono hB.size)
      clear hb
      have W1 := rnds_w (dsq_w hk hi) 10
      obtain ⟨r, hr⟩ : ∃ r, rnds (dsq key inn 4) 10 = r := ⟨_, rfl⟩
      have HR := Hid.mk hr
      rw [hr] at W1 ⊢
      clear hr
      go_wp2_with (first | (refine st_arr isSq g3 (by rfl) (by rfl) ?_; clear g3; intro v4 g3 o3; refine Hid.out ?_))
      replace g2 := g2.only o3 (by omega)
      replace hB := hB.trans (o3.below (by omega))
      clear o3
      refine Hid.mk ?_
      go_wp2_with fail
      have hs4 := g3.lt
      go_loopg [23] 4 (fun m i v => ∃ k : Nat, Hid (m + k = 4) ∧ i = .int .i64 k ∧ ArrAt v (w.heap.size + 1 + 1) .u8 29 32 (fun _ => 0) ∧ ArrAt v B3 .u32 44 16 r ∧ ArrAt v v4.heap.size .u8 29 32 (dv r k) ∧ Below w.heap.size w v)
      case atStart => exact ⟨0, Hid.mk rfl, rfl, g2.alloc _, g3.alloc _, heap_alloc_new v4 _, hB.alloc hB.size _⟩
      case round =>
        clear g2 g3 hB
        obtain ⟨k, HK, rfl, g2, g3, g4, hB⟩ := hrel
        generalize v4.heap.size = B4 at *
        have hk4 : k ≤ 4 := by have := HK.out; omega
        by_cases hlt : k < 4
        · have h16 : k < 16 := by omega
          have h16b : 12 + k < 16 := by omega
          go_wp2_with fail
          refine wp_region3 (Below w.heap.size w) wr.heap.size
            [((w.heap.size + 1 + 1), fixd (WA .u8 32 (fun _ => 0)) 29), (B3, fixd (WA .u32 16 r) 44), (B4, once (WA .u8 32 (dv r k)) 29 5 (WA .u8 32 (putw (dv r k) k (r k))))]
            [kv (.slice (some ⟨B4, 0, none⟩) 32 32), kv (.int .i64 (k : Int)), kv (.int .i64 (k : Int)), kv (.pointer (some ⟨B3, k, none⟩)), kv (.int .u32 (r k)), kv (.tuple #[])]
            [.none, .none, .none, .none, .none, .base 2 1]
            [some 26, some 27, some 28, some 29, some 30, some 31]
            [(5, .pointer (some ⟨B3, 0, none⟩)), (7, .pointer (some ⟨B4, 0, none⟩)), (8, .int .i64 (k : Int))]
            [[], [], [], [.slot 2], [.slot 3, .base 1 0], [.slot 0, .slot 1, .slot 4, .base 2 0]]
            [.base 0 0, .base 1 0, .base 2 1] [26, 27, 28, 29, 30, 31]
            rfl (by kernel_rfl) ⟨rfl, rfl, rfl, trivial⟩ (Below.drew hB) (Nat.le_refl _) ⟨⟨g2.lt, obIn g2⟩, ⟨g3.lt, obIn g3⟩, ⟨g4.lt, obIn g4⟩, trivial⟩ ⟨⟨trivial, (show ((w.heap.size + 1 + 1) : Nat) ≠ B4 from by omega), trivial⟩, ⟨(show (B3 : Nat) ≠ B4 from by omega), trivial⟩, trivial, trivial⟩ (below_G hB.size ⟨by omega, by omega, by omega, trivial⟩)
            ⟨
              -- 0
              (fun Q aq ww own hS hBg fr kn => .inl ⟨trivial, fun K hK => wp_value (exec_sl rfl fr.2.1 (sl32 _ _)) (hK _ _ ⟨Touch.refl _ _, rfl⟩)⟩),
              -- 1
              (fun Q aq ww own hS hBg fr kn => .inl ⟨trivial, fun K hK => wp_value (exec_move rfl fr.2.2.1) (hK _ _ ⟨Touch.refl _ _, rfl⟩)⟩),
              -- 2
              (fun Q aq ww own hS hBg fr kn => .inl ⟨trivial, fun K hK => wp_value (exec_move rfl fr.2.2.1) (hK _ _ ⟨Touch.refl _ _, rfl⟩)⟩),
              -- 3
              (fun Q aq ww own hS hBg fr kn => .inl ⟨trivial, fun K hK => wp_value (exec_idxA rfl undSq lenSq sizeSq fr.1 kn.1 h16) (hK _ _ ⟨Touch.refl _ _, rfl⟩)⟩),
              -- 4
              (fun Q aq ww own hS hBg fr kn => .inl ⟨trivial, fun K hK => wp_value (exec_ld rfl kn.1 (run_load32 (ArrAt.cell (obAt kn.2.1) k h16))) (hK _ _ ⟨Touch.refl _ _, rfl⟩)⟩),
              -- 5
              (fun Q aq ww own hS hBg fr kn => .inl ⟨trivial, fun K hK => stepp enterPut rfl (args3 kn.1 kn.2.1 kn.2.2.1) ((putWord_arr B4 32 (dv r k) k (r k) ww (obAt kn.2.2.2.1) (W1 k h16) (by omega) (by omega)).mono (fun e w' ⟨he, h1, h2⟩ => ⟨_, he, rfl, h1, h2⟩)) (R := fun u w' => u = .tuple #[] ∧ ArrAt w' B4 .u8 _ 32 (putw (dv r k) k (r k)) ∧ Only B4 ww w') (fun v w' ⟨hv, h1, h2⟩ => hK _ _ ⟨⟨touch_only h2, obIn h1⟩, hv⟩)⟩),
              trivial⟩ ?_
          intro vs5 own5 v5 hB5 hs5 kn inj
          clear inj g2 g3 g4 hB
          have g2 : ArrAt v5 (w.heap.size + 1 + 1) .u8 29 32 (fun _ => 0) := obAt kn.1
          have g3 : ArrAt v5 B3 .u32 44 16 r := obAt kn.2.1
          have g4 : ArrAt v5 B4 .u8 29 32 (putw (dv r k) k (r k)) := obAt kn.2.2.1
          clear kn hs5
          simp only [putAll, Act.put, List.setIfInBounds_toArray, List.set_cons_zero, List.set_cons_succ]
          go_wp2_with fail
          refine wp_region3 (Below w.heap.size w) v5.heap.size
            [((w.heap.size + 1 + 1), fixd (WA .u8 32 (fun _ => 0)) 29), (B3, fixd (WA .u32 16 r) 44), (B4, once (WA .u8 32 (putw (dv r k) k (r k))) 29 7 (WA .u8 32 (dv r (k + 1))))]
            [kv (.slice (some ⟨B4, 0, none⟩) 32 32), kv (.int .i64 (k : Int)), kv (.int .i64 ((4 + k : Nat) : Int)), kv (.int .i64 (k : Int)), kv (.int .i64 ((12 + k : Nat) : Int)), kv (.pointer (some ⟨B3, (12 + k), none⟩)), kv (.int .u32 (r (12 + k))), kv (.tuple #[])]
            [.none, .none, .none, .none, .none, .none, .none, .base 2 1]
            [some 32, some 33, some 34, some 35, some 36, some 37, some 38, some 39]
            [(5, .pointer (some ⟨B3, 0, none⟩)), (7, .pointer (some ⟨B4, 0, none⟩)), (8, .int .i64 (k : Int))]
            [[], [], [.slot 1], [], [.slot 3], [.slot 4], [.slot 5, .base 1 0], [.slot 0, .slot 2, .slot 6, .base 2 0]]
            [.base 0 0, .base 1 0, .base 2 1] [32, 33, 34, 35, 36, 37, 38, 39]
            rfl (by kernel_rfl) ⟨rfl, rfl, rfl, trivial⟩ (Below.drew hB5) (Nat.le_refl _) ⟨⟨g2.lt, obIn g2⟩, ⟨g3.lt, obIn g3⟩, ⟨g4.lt, obIn g4⟩, trivial⟩ ⟨⟨trivial, (show ((w.heap.size + 1 + 1) : Nat) ≠ B4 from by omega), trivial⟩, ⟨(show (B3 : Nat) ≠ B4 from by omega), trivial⟩, trivial, trivial⟩ (below_G hB5.size ⟨by omega, by omega, by omega, trivial⟩)
            ⟨
              -- 0
              (fun Q aq ww own hS hBg fr kn => .inl ⟨trivial, fun K hK => wp_value (exec_sl rfl fr.2.1 (sl32 _ _)) (hK _ _ ⟨Touch.refl _ _, rfl⟩)⟩),
              -- 1
              (fun Q aq ww own hS hBg fr kn => .inl ⟨trivial, fun K hK => wp_value (exec_move rfl fr.2.2.1) (hK _ _ ⟨Touch.refl _ _, rfl⟩)⟩),
              -- 2
              (fun Q aq ww own hS hBg fr kn => .inl ⟨trivial, fun K hK => wp_value (exec_add rfl rfl kn.1 (by omega) (by omega)) (hK _ _ ⟨Touch.refl _ _, rfl⟩)⟩),
              -- 3
              (fun Q aq ww own hS hBg fr kn => .inl ⟨trivial, fun K hK => wp_value (exec_move rfl fr.2.2.1) (hK _ _ ⟨Touch.refl _ _, rfl⟩)⟩),
              -- 4
              (fun Q aq ww own hS hBg fr kn => .inl ⟨trivial, fun K hK => wp_value (exec_add rfl rfl kn.1 (by omega) (by omega)) (hK _ _ ⟨Touch.refl _ _, rfl⟩)⟩),
              -- 5
              (fun Q aq ww own hS hBg fr kn => .inl ⟨trivial, fun K hK => wp_value (exec_idxA rfl undSq lenSq sizeSq fr.1 kn.1 h16b) (hK _ _ ⟨Touch.refl _ _, rfl⟩)⟩),
              -- 6
              (fun Q aq ww own hS hBg fr kn => .inl ⟨trivial, fun K hK => wp_value (exec_ld rfl kn.1 (run_load32 (ArrAt.cell (obAt kn.2.1) (12 + k) h16b))) (hK _ _ ⟨Touch.refl _ _, rfl⟩)⟩),
              -- 7
              (fun Q aq ww own hS hBg fr kn => .inl ⟨trivial, fun K hK => stepp enterPut rfl (args3 kn.1 kn.2.1 kn.2.2.1) ((putWord_arr B4 32 (putw (dv r k) k (r k)) (4 + k) (r (12 + k)) ww (obAt kn.2.2.2.1) (W1 (12 + k) h16b) (by omega) (by omega)).mono (fun e w' ⟨he, h1, h2⟩ => ⟨_, he, rfl, h1, h2⟩)) (R := fun u w' => u = .tuple #[] ∧ ArrAt w' B4 .u8 _ 32 (putw (putw (dv r k) k (r k)) (4 + k) (r (12 + k))) ∧ Only B4 ww w') (fun v w' ⟨hv, h1, h2⟩ => hK _ _ ⟨⟨touch_only h2, obIn h1⟩, hv⟩)⟩),
              trivial⟩ ?_
          intro vs6 own6 v6 hB6 hs6 kn inj
          clear inj g2 g3 g4 hB5
          have g2 : ArrAt v6 (w.heap.size + 1 + 1) .u8 29 32 (fun _ => 0) := obAt kn.1
          have g3 : ArrAt v6 B3 .u32 44 16 r := obAt kn.2.1
          have g4 : ArrAt v6 B4 .u8 29 32 (dv r (k + 1)) := obAt kn.2.2.1
          clear kn hs6
          simp only [putAll, Act.put, List.setIfInBounds_toArray, List.set_cons_zero, List.set_cons_succ]
          go_wp2_with fail
          go_roundg (4 - (k + 1))
          case rel => exact ⟨k + 1, Hid.mk (by omega), by go_num, g2, g3, g4, hB6⟩
          case measure => have := HK.out; omega
        · have hk2 : k = 4 := by omega
          subst hk2
          clear hlt hk4 HK
          rw [← HR.out] at g4
          go_wp2_with (first | (refine ld_arr isArr32 g4 (by rfl) ?_) | (refine st_arr isArr32 g2 (by rfl) (by rfl) ?_; intro v6 g5 o5))
          exact bodyPost_ret (v := .agg (WA .u8 32 (dv (rnds (dsq key inn 4) 10) 4))) (res_arr rfl isArr32 g5 rfl) rfl ⟨rfl, hB.trans (o5.below (by omega))⟩
end Go.Proofs.Ytfgebcemdjplnaa
