/-
  Own text. What carried of the document's answer for poly gives.
-/
import Derived.Test.YtfbeclleeehaaaaP1
namespace Go.Proofs.Ytfbeclleeehaaaa
open Go.RowKit Go.Proofs
theorem cat_snoc (k : Nat) (e : Nat → Int) (d : Int) : (∀ i, i < k → cat k e (fun _ => d) i = e i) ∧ cat k e (fun _ => d) k = d := by
  constructor
  · intro i hi
    unfold cat
    rw [if_pos hi]
  · unfold cat
    rw [if_neg (by omega)]
set_option maxHeartbeats 2000000 in
theorem carried_run (s : Nat → Int) (n b cp : Nat) (w : World) (hR : RowAt w b .i64 3 n s) (hs : Dg 8796093022208 n s) (hn : n ≤ 100) :
    Calls Try.prog 16 #[.slice (some ⟨b, 0, none⟩) n cp, .int .i64 18] w fun r w' => ∃ g c m e, r = .returned (.slice (some ⟨g, 0, none⟩) m c) ∧ Cared s n m e ∧ w'.ownsRow w.heap.size 3 1 (.slice (some ⟨g, 0, none⟩) m c) m (nums .i64 m e) ∧ Below w.heap.size w w' := by
  have hb := hR.lt
  go_enter Try.func16, Try.ntmps16
  go_wp2_with fail
  go_loopg [5, 6, 7] (max (n + 5) 18) (fun m v cv iv wr => ∃ (k : Nat) (c : Int) (e : Nat → Int), Hid (m + k = max (n + 5) 18) ∧ cv = .int .i64 c ∧ iv = .int .i64 (k : Int) ∧ Hid (Car s n k c e) ∧ wr.ownsRow w.heap.size 3 1 v k (nums .i64 k e) ∧ Below w.heap.size w wr)
  case atStart => exact ⟨0, 0, fun _ => 0, Hid.mk (by omega), rfl, rfl, Hid.mk (Car.start s n _), World.ownsRow_nil w _ _ _, Below.refl _ _⟩
  case round =>
    obtain ⟨k, c, e, HM, rfl, rfl, HC, hO, hB⟩ := hrel
    have hc0 := HC.out.c0
    have hc1 := HC.out.c1
    have hkm : k ≤ max (n + 5) 18 := by have := HM.out; omega
    by_cases hlt : k < n
    · have cx := (hR.below hB hb).cell k hlt
      have hx0 := (hs k hlt).1
      have hx1 := (hs k hlt).2
      have hkm2 : k < max (n + 5) 18 := by omega
      have HS : Hid (∀ e' : Nat → Int, (∀ i, i < k → e' i = e i) → e' k = (c + s k) % 256 → Car s n (k + 1) ((c + s k) / 256) e') := Hid.mk (fun e' h1 h2 => by
        have hp : pad s n k = s k := by unfold pad; rw [if_pos hlt]
        have := HC.out.step (e' := e') hs h1 (by rw [hp]; exact h2)
        rw [hp] at this
        exact this)
      generalize s k = x at *
      go_wp2_with (at_builtin; refine ap_own rfl _ _ 45 3 .i64 8 Try.underlying45 infoInt (by decide) (by rfl) (n := k) (m := 1) (by rfl) (own_kept hO ((Below.refl _ wr).alloc (Nat.le_refl _) _)) (by rfl) (r := fun _ => (c + x) % 256) (fun j hj => by obtain rfl : j = 0 := (by omega); exact cell_of_row _ _ 0 _ _ _ (heap_alloc_new wr _)) (by omega) (hB.alloc hB.size _).size ?_; intro v2 w2 h2 hb2; refine Hid.out ?_)
      have CS := HS.out _ (cat_snoc k e ((c + x) % 256)).1 (cat_snoc k e ((c + x) % 256)).2
      have HC2 := Hid.mk CS
      have hB2 := (hB.alloc hB.size (.cells #[.int .i64 ((c + x) % 256)] 3)).trans hb2
      clear HS CS hb2 hO HC
      refine Hid.mk ?_
      go_wp2_with fail
      go_roundg (max (n + 5) 18 - (k + 1))
      case rel => exact ⟨k + 1, _, _, Hid.mk (by omega), rfl, by go_num, HC2, h2, hB2⟩
      case measure => have := HM.out; omega
    · have hpz : pad s n k = 0 := by unfold pad; rw [if_neg (by omega)]
      by_cases hcp : 0 < c
      · have hkm2 : k < max (n + 5) 18 := by
          rcases Nat.lt_or_ge k (n + 5) with h | h
          · omega
          · have := HC.out.few h
            omega
        have HS : Hid (∀ e' : Nat → Int, (∀ i, i < k → e' i = e i) → e' k = c % 256 → Car s n (k + 1) (c / 256) e') := Hid.mk (fun e' h1 h2 => by
          have := HC.out.step (e' := e') hs h1 (by rw [hpz, Int.add_zero]; exact h2)
          rw [hpz, Int.add_zero] at this
          exact this)
        go_wp2_with (at_builtin; refine ap_own rfl _ _ 45 3 .i64 8 Try.underlying45 infoInt (by decide) (by rfl) (n := k) (m := 1) (by rfl) (own_kept hO ((Below.refl _ wr).alloc (Nat.le_refl _) _)) (by rfl) (r := fun _ => c % 256) (fun j hj => by obtain rfl : j = 0 := (by omega); exact cell_of_row _ _ 0 _ _ _ (heap_alloc_new wr _)) (by omega) (hB.alloc hB.size _).size ?_; intro v2 w2 h2 hb2; refine Hid.out ?_)
        have CS := HS.out _ (cat_snoc k e (c % 256)).1 (cat_snoc k e (c % 256)).2
        have HC2 := Hid.mk CS
        have hB2 := (hB.alloc hB.size (.cells #[.int .i64 (c % 256)] 3)).trans hb2
        clear HS CS hb2 hO HC
        refine Hid.mk ?_
        go_wp2_with fail
        go_roundg (max (n + 5) 18 - (k + 1))
        case rel => exact ⟨k + 1, _, _, Hid.mk (by omega), rfl, by go_num, HC2, h2, hB2⟩
        case measure => have := HM.out; omega
      · have hcz : c = 0 := by omega
        subst hcz
        by_cases h18 : k < 18
        · have HS : Hid (∀ e' : Nat → Int, (∀ i, i < k → e' i = e i) → e' k = 0 → Car s n (k + 1) 0 e') := Hid.mk (fun e' h1 h2 => by
            have := HC.out.step (e' := e') hs h1 (by rw [hpz]; exact h2)
            rw [hpz] at this
            exact this)
          go_wp2_with (at_builtin; refine ap_own rfl _ _ 45 3 .i64 8 Try.underlying45 infoInt (by decide) (by rfl) (n := k) (m := 1) (by rfl) (own_kept hO ((Below.refl _ wr).alloc (Nat.le_refl _) _)) (by rfl) (r := fun _ => 0) (fun j hj => by obtain rfl : j = 0 := (by omega); exact cell_of_row _ _ 0 _ _ _ (heap_alloc_new wr _)) (by omega) (hB.alloc hB.size _).size ?_; intro v2 w2 h2 hb2; refine Hid.out ?_)
          have CS := HS.out _ (cat_snoc k e (0)).1 (cat_snoc k e (0)).2
          have HC2 := Hid.mk CS
          have hB2 := (hB.alloc hB.size (.cells #[.int .i64 (0)] 3)).trans hb2
          clear HS CS hb2 hO HC
          refine Hid.mk ?_
          go_wp2_with fail
          go_roundg (max (n + 5) 18 - (k + 1))
          case rel => exact ⟨k + 1, _, _, Hid.mk (by omega), rfl, by go_num, HC2, h2, hB2⟩
          case measure => have := HM.out; omega
        · have hD := HC.out.done (by omega) (by omega) hkm
          obtain ⟨g, cg, rfl, hg1, hg2, hg3⟩ := own_row hO (by omega)
          go_wp2_with fail
          go_ret
          exact ⟨g, cg, k, rfl, e, hD, hO, hB⟩
end Go.Proofs.Ytfbeclleeehaaaa
