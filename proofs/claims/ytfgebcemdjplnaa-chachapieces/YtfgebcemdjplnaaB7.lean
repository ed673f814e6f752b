/-
  Own text. What Block and Derive of package chacha give.
-/
import Derived.Test.YtfgebcemdjplnaaB6
namespace Go.Proofs.Ytfgebcemdjplnaa
open Go.RowKit Go.Proofs
theorem lets_w (i : Nat) (h : i < 4) : W32 (wrd lets i) := wrd_w lets_byts (by omega)
theorem ksq_w {key : Nat → Int} (hk : Byts 32 key) (n : Nat) : ∀ i, i < 12 → W32 (ksq key n i) := fun i hi => by
  unfold ksq
  split
  · split
    · exact lets_w i (by assumption)
    · exact wrd_w hk (by omega)
  · unfold W32; omega
theorem ssq_w {key nonce : Nat → Int} {c : Int} (hk : Byts 32 key) (hn : Byts 12 nonce) (hc : W32 c) : ∀ i, i < 16 → W32 (ssq key c nonce 3 i) := fun i hi => by
  unfold ssq
  split
  · exact hc
  · split
    · exact wrd_w hn (by omega)
    · exact ksq_w hk 12 i (by omega)
set_option maxHeartbeats 1000000 in
set_option maxRecDepth 100000 in
theorem Block_run (key nonce : Nat → Int) (c : Int) (w : World) (hk : Byts 32 key) (hn : Byts 12 nonce) (hc : W32 c) :
    Calls Try.prog 11 #[.agg (WA .u8 32 key), .int .u32 c, .agg (WA .u8 12 nonce)] w fun e w' => e = .returned (.agg (WA .u8 64 (blk (ssq key c nonce 3)))) ∧ Below w.heap.size w w' := by
  have g0 : ArrAt (((w.alloc (.cells (WA .u8 32 key) 29)).alloc (.cells (WA .u8 12 nonce) 30)).alloc (.cells (WA .u8 64 fun _ => 0) 33)) w.heap.size .u8 29 32 key := heap_a31 w _ _ _
  have g1 : ArrAt (((w.alloc (.cells (WA .u8 32 key) 29)).alloc (.cells (WA .u8 12 nonce) 30)).alloc (.cells (WA .u8 64 fun _ => 0) 33)) (w.heap.size + 1) .u8 30 12 nonce := heap_a32 w _ _ _
  have g2 : ArrAt (((w.alloc (.cells (WA .u8 32 key) 29)).alloc (.cells (WA .u8 12 nonce) 30)).alloc (.cells (WA .u8 64 fun _ => 0) 33)) (w.heap.size + 1 + 1) .u8 33 64 (fun _ => 0) := heap_a3 w _ _ _
  have hB : Below w.heap.size w (((w.alloc (.cells (WA .u8 32 key) 29)).alloc (.cells (WA .u8 12 nonce) 30)).alloc (.cells (WA .u8 64 fun _ => 0) 33)) := (((Below.refl _ w).alloc (by simp) _).alloc (by simp) _).alloc (by simp; omega) _
  have hS := fun w => streamSquare_run key nonce c w hk hn
  have hw := ssq_w hk hn hc
  generalize ssq key c nonce 3 = sq at *
  go_enter Try.func11, Try.ntmps11
  go_wp2_with (first | (refine ld_arr isArr32 g0 (by rfl) ?_) | (refine ld_arr isArr12 g1 (by rfl) ?_))
  refine (hS _).mono ?_
  rintro e v1 ⟨rfl, hb⟩
  replace g2 := g2.kept hb
  replace hB := hB.trans (hb.mono hB.size)
  clear hb g0 g1
  go_wp2_with fail
  refine (block_run sq _ hw).mono ?_
  rintro e v2 ⟨rfl, hb⟩
  replace g2 := g2.kept hb
  replace hB := hB.trans (hb.mono hB.size)
  clear hb
  go_wp2_with (first | (refine st_arr isArr64 g2 (by rfl) (by rfl) ?_; intro v4 g5 o5))
  exact bodyPost_ret (v := .agg (WA .u8 64 (blk sq))) (res_arr rfl isArr64 g5 rfl) rfl ⟨rfl, hB.trans (o5.below (by omega))⟩
end Go.Proofs.Ytfgebcemdjplnaa
