/-
  Own text. What keySquare and streamSquare of package chacha give.
-/
import Derived.Test.YtfgebcemdjplnaaB2
namespace Go.Proofs.Ytfgebcemdjplnaa
open Go.RowKit Go.Proofs
/-- The letters. -/
def lets (i : Nat) : Int := [101, 120, 112, 97, 110, 100, 32, 51, 50, 45, 98, 121, 116, 101, 32, 107].getD i 0
theorem lets_byts : Byts 16 lets := by unfold Byts lets; decide
/-- The first words of the square: the letters', then the key's. -/
def ksq (key : Nat → Int) (n : Nat) (i : Nat) : Int := if i < n then (if i < 4 then wrd lets i else wrd key (i - 4)) else 0
theorem ksq_low (key : Nat → Int) (k : Nat) (hk : k < 4) : upd (ksq key k) k (wrd lets k) = ksq key (k + 1) := by
  funext i
  unfold upd ksq
  by_cases e : i = k
  · subst e; simp [hk]
  · rw [if_neg e]
    by_cases h : i < k
    · simp [h, show i < k + 1 by omega]
    · simp [h, show ¬ i < k + 1 by omega]
theorem ksq_high (key : Nat → Int) (k : Nat) : upd (ksq key (4 + k)) (4 + k) (wrd key k) = ksq key (4 + (k + 1)) := by
  funext i
  unfold upd ksq
  by_cases e : i = 4 + k
  · subst e; rw [if_pos rfl, if_pos (by omega), if_neg (by omega)]; congr 1; omega
  · rw [if_neg e]
    by_cases h : i < 4 + k
    · simp [h, show i < 4 + (k + 1) by omega]
    · simp [h, show ¬ i < 4 + (k + 1) by omega]
theorem lets_WA : #[Value.int .u8 101, .int .u8 120, .int .u8 112, .int .u8 97, .int .u8 110, .int .u8 100, .int .u8 32, .int .u8 51, .int .u8 50, .int .u8 45, .int .u8 98, .int .u8 121, .int .u8 116, .int .u8 101, .int .u8 32, .int .u8 107] = WA .u8 16 lets := rfl
theorem conv_lets (w : World) : (convert 32 32 (.slice (some ⟨w.heap.size, 0, none⟩) 16 16)).run Try.prog (w.alloc (.cells (WA .u8 16 lets) 5)) = .ok (.slice (some ⟨w.heap.size, 0, none⟩) 16 16) (w.alloc (.cells (WA .u8 16 lets) 5 (16, 17))) := by
  have h := Lib.run_convert_bytes_const (P := Try.prog) w 32 5 (WA .u8 16 lets) 16 16 Try.underlying32 Try.underlying5
  rw [WA_size] at h
  exact h
set_option maxHeartbeats 2000000 in
theorem keySquare_run (key : Nat → Int) (w : World) (hk : Byts 32 key) :
    Calls Try.prog 25 #[.agg (WA .u8 32 key)] w fun e w' => e = .returned (.agg (WA .u32 16 (ksq key 12))) ∧ Below w.heap.size w w' := by
  have HW := lets_WA
  go_enter Try.func25, Try.ntmps25
  go_wp2
  go_loopg [6] 4 (fun m i v => ∃ k : Nat, Hid (m + k = 4) ∧ i = .int .i64 k ∧ ArrAt v w.heap.size .u8 29 32 key ∧ ArrAt v (w.heap.size + 1) .u32 44 16 (fun _ => 0) ∧ ArrAt v (w.heap.size + 1 + 1) .u32 44 16 (ksq key k) ∧ Below w.heap.size w v)
  case atStart => exact ⟨0, Hid.mk rfl, rfl, heap_a31 w _ _ _, heap_a32 w _ _ _, ArrAt.congr (s := fun _ => 0) (heap_a3 w _ _ _) (fun _ _ => rfl), (((Below.refl _ w).alloc (by simp) _).alloc (by simp) _).alloc (by simp; omega) _⟩
  case round =>
    obtain ⟨k, HK, rfl, g0, g1, g2, hB⟩ := hrel
    have hk4 : k ≤ 4 := by have := HK.out; omega
    by_cases hlt : k < 4
    · have hcv := conv_lets wr
      go_wp2_with fail
      refine (wordAt_run wr.heap.size 16 16 lets k _ (RowAt.marked (heap_alloc_new wr _) (Nat.le_refl _)) lets_byts (by omega) (by omega) (by omega)).mono ?_
      rintro e v1 ⟨rfl, hb⟩
      clear hcv
      have hb2 : Below wr.heap.size wr v1 := Below.trans ((Below.refl _ wr).alloc (Nat.le_refl _) _) (hb.mono (by simp))
      replace g0 := g0.kept hb2
      replace g1 := g1.kept hb2
      replace g2 := g2.kept hb2
      replace hB := hB.trans (hb2.mono hB.size)
      clear hb hb2
      have c2 := g2.cell k (by omega)
      have f2 := g2.free k
      go_wp2_with fail
      go_roundg (4 - (k + 1))
      case rel => exact ⟨k + 1, Hid.mk (by omega), by go_num, g0.other _ (by omega), g1.other _ (by omega), by rw [← ksq_low key k hlt]; exact g2.set k _ (by omega), Below.setCell hB (by simp; omega) _⟩
      case measure => have := HK.out; omega
    · have hk2 : k = 4 := by omega
      subst hk2
      clear hlt hk4 HK HW
      go_wp2
      go_loopg [16] 8 (fun m i v => ∃ k : Nat, Hid (m + k = 8) ∧ i = .int .i64 k ∧ ArrAt v w.heap.size .u8 29 32 key ∧ ArrAt v (w.heap.size + 1) .u32 44 16 (fun _ => 0) ∧ ArrAt v (w.heap.size + 1 + 1) .u32 44 16 (ksq key (4 + k)) ∧ Below w.heap.size w v)
      case atStart => exact ⟨0, Hid.mk rfl, rfl, g0, g1, g2, hB⟩
      case round =>
        clear g0 g1 g2 hB
        obtain ⟨k, HK, rfl, g0, g1, g2, hB⟩ := hrel
        have hk8 : k ≤ 8 := by have := HK.out; omega
        by_cases hlt : k < 8
        · go_wp2_with fail
          refine (wordAt_run w.heap.size 32 32 key k _ g0.row hk (by omega) (by omega) (by omega)).mono ?_
          rintro e v1 ⟨rfl, hb⟩
          replace g0 := g0.kept hb
          replace g1 := g1.kept hb
          replace g2 := g2.kept hb
          replace hB := hB.trans (hb.mono hB.size)
          clear hb
          have c2 := g2.cell (4 + k) (by omega)
          have f2 := g2.free (4 + k)
          go_wp2_with fail
          go_roundg (8 - (k + 1))
          case rel => exact ⟨k + 1, Hid.mk (by omega), by go_num, g0.other _ (by omega), g1.other _ (by omega), by rw [← ksq_high key k]; exact g2.set (4 + k) _ (by omega), Below.setCell hB (by simp; omega) _⟩
          case measure => have := HK.out; omega
        · have hk2 : k = 8 := by omega
          subst hk2
          clear hlt hk8 HK
          go_wp2_with (first | (refine ld_arr isSq g2 (by rfl) ?_) | (refine st_arr isSq g1 (by rfl) (by rfl) ?_; intro v2 g3 o3))
          exact bodyPost_ret (v := .agg (WA .u32 16 (ksq key 12))) (res_arr rfl isSq g3 rfl) rfl ⟨rfl, hB.trans (o3.below (by omega))⟩
end Go.Proofs.Ytfgebcemdjplnaa
