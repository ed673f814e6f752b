/-
  Own text. What streamSquare, ahead and rounds of package chacha give.
-/
import Derived.Test.YtfgebcemdjplnaaB3
namespace Go.Proofs.Ytfgebcemdjplnaa
open Go.RowKit Go.Proofs
/-- The square of a block, its last words but for k still to come. -/
def ssq (key : Nat → Int) (c : Int) (nonce : Nat → Int) (k : Nat) (i : Nat) : Int := if i = 12 then c else if 12 < i ∧ i < 13 + k then wrd nonce (i - 13) else ksq key 12 i
theorem ssq_0 (key : Nat → Int) (c : Int) (nonce : Nat → Int) : upd (ksq key 12) 12 c = ssq key c nonce 0 := by
  funext i
  unfold upd ssq
  by_cases e : i = 12
  · simp [e]
  · rw [if_neg e, if_neg e, if_neg (by omega)]
theorem ssq_step (key : Nat → Int) (c : Int) (nonce : Nat → Int) (k : Nat) : upd (ssq key c nonce k) (13 + k) (wrd nonce k) = ssq key c nonce (k + 1) := by
  funext i
  unfold upd ssq
  by_cases e : i = 13 + k
  · subst e; rw [if_pos rfl, if_neg (by omega), if_pos (by omega)]; congr 1; omega
  · rw [if_neg e]
    by_cases h : i = 12
    · simp [h]
    · rw [if_neg h, if_neg h]
      by_cases h' : 12 < i ∧ i < 13 + k
      · rw [if_pos h', if_pos (by omega)]
      · rw [if_neg h', if_neg (by omega)]
set_option maxHeartbeats 2000000 in
theorem streamSquare_run (key nonce : Nat → Int) (c : Int) (w : World) (hk : Byts 32 key) (hn : Byts 12 nonce) :
    Calls Try.prog 20 #[.agg (WA .u8 32 key), .int .u32 c, .agg (WA .u8 12 nonce)] w fun e w' => e = .returned (.agg (WA .u32 16 (ssq key c nonce 3))) ∧ Below w.heap.size w w' := by
  have g0 : ArrAt (((w.alloc (.cells (WA .u8 32 key) 29)).alloc (.cells (WA .u8 12 nonce) 30)).alloc (.cells (WA .u32 16 fun _ => 0) 44)) w.heap.size .u8 29 32 key := heap_a31 w _ _ _
  have g1 : ArrAt (((w.alloc (.cells (WA .u8 32 key) 29)).alloc (.cells (WA .u8 12 nonce) 30)).alloc (.cells (WA .u32 16 fun _ => 0) 44)) (w.heap.size + 1) .u8 30 12 nonce := heap_a32 w _ _ _
  have g2 : ArrAt (((w.alloc (.cells (WA .u8 32 key) 29)).alloc (.cells (WA .u8 12 nonce) 30)).alloc (.cells (WA .u32 16 fun _ => 0) 44)) (w.heap.size + 1 + 1) .u32 44 16 (fun _ => 0) := heap_a3 w _ _ _
  have hB : Below w.heap.size w (((w.alloc (.cells (WA .u8 32 key) 29)).alloc (.cells (WA .u8 12 nonce) 30)).alloc (.cells (WA .u32 16 fun _ => 0) 44)) := (((Below.refl _ w).alloc (by simp) _).alloc (by simp) _).alloc (by simp; omega) _
  go_enter Try.func20, Try.ntmps20
  go_wp2_with (first | (refine ld_arr isArr32 g0 (by rfl) ?_))
  refine (keySquare_run key _ hk).mono ?_
  rintro e v1 ⟨rfl, hb⟩
  replace g0 := g0.kept hb
  replace g1 := g1.kept hb
  replace g2 := g2.kept hb
  replace hB := hB.trans (hb.mono hB.size)
  clear hb
  go_wp2_with (first | (refine st_arr (s' := fun _ => 0) (k' := .u32) isSq (heap_alloc_new v1 _) (by rfl) (by rfl) ?_; intro v2 g3 o3; refine Hid.out ?_))
  have hs1 := g2.lt
  replace g1 := (g1.alloc _).only o3 (Nat.ne_of_lt g1.lt)
  replace g2 := (g2.alloc _).only o3 (Nat.ne_of_lt g2.lt)
  replace hB := (hB.alloc hB.size _).trans (o3.below hB.size)
  clear o3 g0
  generalize v1.heap.size = B3 at *
  have c3 := g3.cell 12 (by omega)
  have f3 := g3.free 12
  refine Hid.mk ?_
  go_wp2_with fail
  replace g1 := g1.other (g := B3) (i := 12) (.int .u32 c) (by omega)
  replace g2 := g2.other (g := B3) (i := 12) (.int .u32 c) (by omega)
  replace g3 := g3.set 12 c (by omega)
  rw [ssq_0 key c nonce] at g3
  replace hB := Below.setCell hB (p := ⟨B3, 12, none⟩) (by simp; omega) (.int .u32 c)
  clear c3 f3
  go_loopg [13] 3 (fun m i v => ∃ k : Nat, Hid (m + k = 3) ∧ i = .int .i64 k ∧ ArrAt v (w.heap.size + 1) .u8 30 12 nonce ∧ ArrAt v (w.heap.size + 1 + 1) .u32 44 16 (fun _ => 0) ∧ ArrAt v B3 .u32 44 16 (ssq key c nonce k) ∧ Below w.heap.size w v)
  case atStart => exact ⟨0, Hid.mk rfl, rfl, g1, g2, g3, hB⟩
  case round =>
    clear g1 g2 g3 hB
    obtain ⟨k, HK, rfl, g1, g2, g3, hB⟩ := hrel
    have hk3 : k ≤ 3 := by have := HK.out; omega
    by_cases hlt : k < 3
    · go_wp2_with fail
      refine (wordAt_run (w.heap.size + 1) 12 12 nonce k _ g1.row hn (by omega) (by omega) (by omega)).mono ?_
      rintro e v3 ⟨rfl, hb⟩
      replace g1 := g1.kept hb
      replace g2 := g2.kept hb
      replace g3 := g3.kept hb
      replace hB := hB.trans (hb.mono hB.size)
      clear hb
      have c3 := g3.cell (13 + k) (by omega)
      have f3 := g3.free (13 + k)
      go_wp2_with fail
      go_roundg (3 - (k + 1))
      case rel => exact ⟨k + 1, Hid.mk (by omega), by go_num, g1.other _ (by omega), g2.other _ (by omega), by rw [← ssq_step key c nonce k]; exact g3.set (13 + k) _ (by omega), Below.setCell hB (by simp; omega) _⟩
      case measure => have := HK.out; omega
    · have hk2 : k = 3 := by omega
      subst hk2
      clear hlt hk3 HK
      go_wp2_with (first | (refine ld_arr isSq g3 (by rfl) ?_) | (refine st_arr isSq g2 (by rfl) (by rfl) ?_; intro v4 g4 o4))
      exact bodyPost_ret (v := .agg (WA .u32 16 (ssq key c nonce 3))) (res_arr rfl isSq g4 rfl) rfl ⟨rfl, hB.trans (o4.below (by omega))⟩
set_option maxHeartbeats 1000000 in
theorem ahead_run (s : Nat → Int) (n : Int) (w : World) :
    Calls Try.prog 30 #[.agg (WA .u32 16 s), .int .u32 n] w fun e w' => e = .returned (.agg (WA .u32 16 (upd s 12 (addw (s 12) n)))) ∧ Below w.heap.size w w' := by
  unfold addw
  have e0 := WA_get .u32 16 s 12 (by omega)
  have e1 := WA_set .u32 16 s 12 ((s 12 + n) % 4294967296) (by omega)
  go_enter Try.func30, Try.ntmps30
  go_wp2_with (first | (refine ld_arr isSq (heap_alloc2_old w _ _) (by rfl) ?_) | (refine st_arr (s' := fun _ => 0) (k' := .u32) isSq (heap_alloc2_new w _ _) (by rfl) (by rfl) ?_; intro v4 g4 o4))
  exact bodyPost_ret (v := .agg (WA .u32 16 (upd s 12 ((s 12 + n) % 4294967296)))) (res_arr rfl isSq g4 rfl) rfl ⟨rfl, (((Below.refl _ w).alloc (by simp) _).alloc (by simp) _).trans (o4.below (by omega))⟩
end Go.Proofs.Ytfgebcemdjplnaa
