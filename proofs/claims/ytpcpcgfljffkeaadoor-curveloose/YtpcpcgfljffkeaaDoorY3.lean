/-
  Own text. The law CurveLoose answers true at every input, walked over the translation.
-/
import Derived.Test.YtpcpcgfljffkeaaDoorJ5
namespace Go.Proofs.YtpcpcgfljffkeaaDoor
open Go.RowKit Go.Proofs
theorem lo8 : ∀ x : Nat, x < 256 → ∀ m : Nat, m < 8 → (x ^^^ m) / 8 = x / 8 := by decide +kernel
theorem lo64 : ∀ x : Nat, x < 256 → ∀ a : Nat, a < 2 → ∀ b : Nat, b < 2 → (x ^^^ (a * 128) ^^^ (b * 64)) % 64 = x % 64 := by decide +kernel
theorem lo128 : ∀ x : Nat, x < 256 → (x ^^^ 128) % 128 = x % 128 := by decide +kernel
theorem BA_inj {a b : Int} (ha : N256 a) (hb : N256 b) (h : BA a = BA b) : a = b := byt_inj ha.1 ha.2 hb.1 hb.2 (fun i hi => by
  have e := congrArg (fun c : Array Value => c[i]?) h
  simp only [BA_get _ _ hi, Option.some.injEq, Value.int.injEq, true_and] at e
  exact e)
theorem loose_key (k y0 y31 : Int) (hk : N256 k) (h0 : Byte y0) (h31 : Byte y31) (e0 : y0 / 8 = byt k 0 / 8) (e31 : y31 % 64 = byt k 31 % 64) :
    ∃ L, N256 L ∧ ((BA k).setIfInBounds 0 (.int .u8 y0)).setIfInBounds 31 (.int .u8 y31) = BA L ∧ clampN L = clampN k := by
  obtain ⟨L, hL, e⟩ := BA_of_bytes (((BA k).setIfInBounds 0 (.int .u8 y0)).setIfInBounds 31 (.int .u8 y31)) (fun i => if 31 = i then y31 else if 0 = i then y0 else byt k i) (by simp [BA_size]) (fun i hi => by
    rw [Array.getElem?_setIfInBounds]
    by_cases a : 31 = i
    · subst a
      simp only [if_true, Array.size_setIfInBounds, BA_size]
      exact ⟨by simp, h31⟩
    · rw [if_neg a, if_neg a, Array.getElem?_setIfInBounds]
      by_cases b : 0 = i
      · subst b
        simp only [if_true, BA_size]
        exact ⟨by simp, h0⟩
      · rw [if_neg b, if_neg b]
        exact ⟨BA_get k i hi, byt_byte k i⟩)
  refine ⟨L, hL, e, BA_inj (clampN_256 L) (clampN_256 k) ?_⟩
  have b0 : byt L 0 = y0 := by
    have := congrArg (fun c : Array Value => c[0]?) e
    rw [BA_get L 0 (by omega)] at this
    simp [BA_size] at this
    exact this.symm
  have b31 : byt L 31 = y31 := by
    have := congrArg (fun c : Array Value => c[31]?) e
    rw [BA_get L 31 (by omega)] at this
    simp [BA_size] at this
    exact this.symm
  rw [← BA_clamp L hL, ← BA_clamp k hk, b0, b31, e0, e31, ← e]
  apply Array.ext_getElem?
  intro i
  simp only [Array.getElem?_setIfInBounds, Array.size_setIfInBounds]
  by_cases a : 31 = i
  · simp [a]
  · by_cases b : 0 = i
    · simp [b, a]
    · simp [a, b]
theorem loose_point (u y31 : Int) (h31 : Byte y31) (e31 : y31 % 128 = byt u 31 % 128) :
    ∃ V, N256 V ∧ (BA u).setIfInBounds 31 (.int .u8 y31) = BA V ∧ V % W255 = u % W255 := by
  obtain ⟨V, hV, e⟩ := BA_of_bytes ((BA u).setIfInBounds 31 (.int .u8 y31)) (fun i => if 31 = i then y31 else byt u i) (by simp [BA_size]) (fun i hi => by
    rw [Array.getElem?_setIfInBounds]
    by_cases a : 31 = i
    · subst a
      simp only [if_true, BA_size]
      exact ⟨by simp, h31⟩
    · rw [if_neg a, if_neg a]
      exact ⟨BA_get u i hi, byt_byte u i⟩)
  have b31 : byt V 31 = y31 := by
    have := congrArg (fun c : Array Value => c[31]?) e
    rw [BA_get V 31 (by omega)] at this
    simp [BA_size] at this
    exact this.symm
  have n1 : N256 (V % W255) := by unfold N256 W256 W255; omega
  have n2 : N256 (u % W255) := by unfold N256 W256 W255; omega
  refine ⟨V, hV, e, BA_inj n1 n2 ?_⟩
  rw [← BA_low V, ← BA_low u, b31, e31, ← e]
  apply Array.ext_getElem?
  intro i
  simp only [Array.getElem?_setIfInBounds, Array.size_setIfInBounds]
  by_cases a : 31 = i
  · simp [a]
  · simp [a]
theorem key_bytes (x0 x31 m : Int) (h0 : Byte x0) (h31 : Byte x31) :
    (Byte (bits BinOp.xor IntKind.u8 x0 (m % 8)) ∧ bits BinOp.xor IntKind.u8 x0 (m % 8) / 8 = x0 / 8) ∧
    Byte (bits BinOp.xor IntKind.u8 (bits BinOp.xor IntKind.u8 x31 (m / 8 % 2 * 128)) (m / 16 % 2 * 64)) ∧ bits BinOp.xor IntKind.u8 (bits BinOp.xor IntKind.u8 x31 (m / 8 % 2 * 128)) (m / 16 % 2 * 64) % 64 = x31 % 64 := by
  unfold Byte at *
  have q1 := xor_lt256 (m := x0.toNat) (n := (m % 8).toNat) (by omega) (by omega)
  have q2 := xor_lt256 (m := x31.toNat) (n := (m / 8 % 2 * 128).toNat) (by omega) (by omega)
  have q3 := xor_lt256 (m := x31.toNat ^^^ (m / 8 % 2 * 128).toNat) (n := (m / 16 % 2 * 64).toNat) q2 (by omega)
  have r1 := lo8 x0.toNat (by omega) (m % 8).toNat (by omega)
  have r2 := lo64 x31.toNat (by omega) (m / 8 % 2).toNat (by omega) (m / 16 % 2).toNat (by omega)
  have s1 : (m / 8 % 2 * 128).toNat = (m / 8 % 2).toNat * 128 := by omega
  have s2 : (m / 16 % 2 * 64).toNat = (m / 16 % 2).toNat * 64 := by omega
  rw [xor_u8 x0 (m % 8) (by omega) (by omega) (by omega) (by omega), xor_u8 x31 (m / 8 % 2 * 128) (by omega) (by omega) (by omega) (by omega), xor_u8 _ (m / 16 % 2 * 64) (by omega) (by omega) (by omega) (by omega)]
  simp only [Int.toNat_natCast]
  rw [← s1, ← s2] at r2
  omega
theorem point_byte (x : Int) (h : Byte x) : Byte (bits BinOp.xor IntKind.u8 x 128) ∧ bits BinOp.xor IntKind.u8 x 128 % 128 = x % 128 := by
  unfold Byte at *
  have q1 := xor_lt256 (m := x.toNat) (n := 128) (by omega) (by omega)
  have r1 := lo128 x.toNat (by omega)
  rw [xor_u8 x 128 (by omega) (by omega) (by omega) (by omega)]
  show (0 ≤ ((x.toNat ^^^ 128 : Nat) : Int) ∧ ((x.toNat ^^^ 128 : Nat) : Int) < 256) ∧ ((x.toNat ^^^ 128 : Nat) : Int) % 128 = x % 128
  omega
set_option maxHeartbeats 1000000 in
set_option maxRecDepth 100000 in
theorem loose_walk (k u n : Int) (w : World) (hP : PrimeAt w) (Nk : N256 k) :
    Calls Tryd.prog 6 #[.agg (BA k), .agg (BA u), .int .i64 n] w fun r w' => r = .returned (.bool true) ∧ Below w.heap.size w w' := by
  have hz := primeAt_pos hP
  have HP := Hid.mk hP
  have NK := Hid.mk Nk
  clear hP
  have Ns := tN_256 k u
  obtain ⟨s, hs⟩ : ∃ s, tN k u = s := ⟨_, rfl⟩
  rw [hs] at Ns
  have HS := Hid.mk hs
  clear hs
  obtain ⟨m, hm⟩ : ∃ m, IntKind.u8.wrap n = m := ⟨_, rfl⟩
  have hm0 : 0 ≤ m ∧ m < 256 := by rw [← hm, IntKind.wrap_u8']; omega
  go_enter Tryd.func6, Tryd.ntmps6
  go_wp2_with (first | (refine ld_bytes rfl _ rfl w.heap.size (BA k) rfl (heap_alloc2_old w _ _) (BA_size _) ?_) | (refine ld_bytes rfl _ rfl (w.heap.size + 1) (BA u) rfl (heap_alloc2_new w _ _) (BA_size _) ?_))
  refine (mult_any k u _ (primeAt_below HP.out (B := w.heap.size) (by repeat first | exact Below.refl _ _ | refine Below.alloc ?_ (by simp <;> omega) _) hz) NK.out).mono ?_
  rintro e v1 ⟨rfl, hb1⟩
  rw [HS.out]
  have g3 := bheap hb1 (heap_alloc2_old w _ _) (by simp <;> omega)
  have g4 := bheap hb1 (heap_alloc2_new w _ _) (by simp <;> omega)
  have hB : Below w.heap.size w v1 := by
    refine Below.trans ?_ (hb1.mono (by simp <;> omega))
    repeat first | exact Below.refl _ _ | refine Below.alloc ?_ (by simp <;> omega) _
  clear hb1
  go_wp2_with (refine st_bytesS (g := v1.heap.size) (n := s) (by rfl) (by rfl) (heap_alloc_new v1 _) (by rfl) ?_; intro v2 g7 o2; refine Hid.out ?_)
  have hl := heap_lt g4
  replace g3 := (o2.block _ (Nat.ne_of_lt (heap_lt g3))).trans ((Below.heap_alloc v1 _ _ (heap_lt g3)).trans g3)
  replace g4 := (o2.block _ (Nat.ne_of_lt (heap_lt g4))).trans ((Below.heap_alloc v1 _ _ (heap_lt g4)).trans g4)
  replace hB := Below.trans (hB.alloc hB.size _) (Only.below (b := v1.heap.size) (B := w.heap.size) o2 hB.size)
  clear o2
  generalize v1.heap.size = b7 at *
  refine Hid.mk ?_
  go_wp2_with (first | (refine ld_bytes rfl _ rfl w.heap.size (BA k) rfl g3 (BA_size _) ?_) | (refine st_bytesS (g := v2.heap.size) (n := k) (by rfl) (by rfl) (heap_alloc_new v2 _) (by rfl) ?_; intro v3 g8 o2; refine Hid.out ?_))
  replace g3 := (o2.block _ (Nat.ne_of_lt (heap_lt g3))).trans ((Below.heap_alloc v2 _ _ (heap_lt g3)).trans g3)
  replace g4 := (o2.block _ (Nat.ne_of_lt (heap_lt g4))).trans ((Below.heap_alloc v2 _ _ (heap_lt g4)).trans g4)
  have hl2 := heap_lt g7
  replace g7 := (o2.block _ (Nat.ne_of_lt (heap_lt g7))).trans ((Below.heap_alloc v2 _ _ (heap_lt g7)).trans g7)
  replace hB := Below.trans (hB.alloc hB.size _) (Only.below (b := v2.heap.size) (B := w.heap.size) o2 hB.size)
  clear o2
  generalize v2.heap.size = b8 at *
  refine Hid.mk ?_
  have c0 := (cell_of_row v3 b8 0 _ _ _ g8).trans (BA_get k 0 (by omega))
  have c31 := (cell_of_row v3 b8 31 _ _ _ g8).trans (BA_get k 31 (by omega))
  have f0 := frozen_of_row v3 b8 0 _ _ g8
  have f31 := frozen_of_row v3 b8 31 _ _ g8
  have kb := key_bytes (byt k 0) (byt k 31) m (byt_byte k 0) (byt_byte k 31)
  obtain ⟨L, NL, EL, CL⟩ := loose_key k _ _ Nk kb.1.1 kb.2.1 kb.1.2 kb.2.2
  have HEL := Hid.mk EL
  have HCL := Hid.mk CL
  clear EL CL kb
  have pb := point_byte (byt u 31) (byt_byte u 31)
  obtain ⟨V, NV, EV, CV⟩ := loose_point u _ pb.1 pb.2
  have HEV := Hid.mk EV
  have HLV := Hid.mk ((tN_loose HCL.out (by rw [CV])).trans HS.out)
  have HLU := Hid.mk (BA_low u)
  clear EV CV pb
  obtain ⟨X, hX⟩ : ∃ X, u % W255 % P255 = X := ⟨_, rfl⟩
  have hXW : X % W255 % P255 = u % W255 % P255 := by
    have h1 := mod_lt_P (u % W255)
    rw [hX] at h1
    rw [Int.emod_eq_of_lt h1.1 (by unfold P255 at h1; unfold W255; omega), Int.emod_eq_of_lt h1.1 h1.2, hX]
  have HCX := Hid.mk ((tN_loose (clampN_clampN k) hXW).trans HS.out)
  have HX := Hid.mk hX
  have HMS : Hid (s % P255 = s) := Hid.mk (by rw [← HS.out]; exact tN_mod k u)
  have hub : N256 (u % W255) := by unfold N256 W256 W255; omega
  have HUB := Hid.mk hub
  clear hX hXW hub
  have hx31 := byt_byte u 31
  unfold Byte at hx31
  generalize byt k 0 = x0 at *
  generalize byt k 31 = x31 at *
  generalize hy31 : byt u 31 = y31 at *
  have g4' : ((v3.setCell ⟨b8, 0, none⟩ (.int .u8 (bits BinOp.xor IntKind.u8 x0 (m % 8)))).setCell ⟨b8, 31, none⟩ (.int .u8 (bits BinOp.xor IntKind.u8 (bits BinOp.xor IntKind.u8 x31 (m / 8 % 2 * 128)) (m / 16 % 2 * 64)))).heap[w.heap.size + 1]? = some (.cells (BA u) 22 (0, 0)) := (heap_setCell_other _ _ _ _ (by simp <;> omega)).trans ((heap_setCell_other _ _ _ _ (by simp <;> omega)).trans g4)
  have g3' : ((v3.setCell ⟨b8, 0, none⟩ (.int .u8 (bits BinOp.xor IntKind.u8 x0 (m % 8)))).setCell ⟨b8, 31, none⟩ (.int .u8 (bits BinOp.xor IntKind.u8 (bits BinOp.xor IntKind.u8 x31 (m / 8 % 2 * 128)) (m / 16 % 2 * 64)))).heap[w.heap.size]? = some (.cells (BA k) 22 (0, 0)) := (heap_setCell_other _ _ _ _ (by simp <;> omega)).trans ((heap_setCell_other _ _ _ _ (by simp <;> omega)).trans g3)
  have g7' : ((v3.setCell ⟨b8, 0, none⟩ (.int .u8 (bits BinOp.xor IntKind.u8 x0 (m % 8)))).setCell ⟨b8, 31, none⟩ (.int .u8 (bits BinOp.xor IntKind.u8 (bits BinOp.xor IntKind.u8 x31 (m / 8 % 2 * 128)) (m / 16 % 2 * 64)))).heap[b7]? = some (.cells (BA s) 22 (0, 0)) := (heap_setCell_other _ _ _ _ (by simp <;> omega)).trans ((heap_setCell_other _ _ _ _ (by simp <;> omega)).trans g7)
  have g8' : ((v3.setCell ⟨b8, 0, none⟩ (.int .u8 (bits BinOp.xor IntKind.u8 x0 (m % 8)))).setCell ⟨b8, 31, none⟩ (.int .u8 (bits BinOp.xor IntKind.u8 (bits BinOp.xor IntKind.u8 x31 (m / 8 % 2 * 128)) (m / 16 % 2 * 64)))).heap[b8]? = some (.cells (BA L) 22 (0, 0)) := by
    rw [← HEL.out]
    exact heap_setCell_same _ _ _ _ _ _ (heap_setCell_same _ _ _ _ _ _ g8)
  have hB' : Below w.heap.size w ((v3.setCell ⟨b8, 0, none⟩ (.int .u8 (bits BinOp.xor IntKind.u8 x0 (m % 8)))).setCell ⟨b8, 31, none⟩ (.int .u8 (bits BinOp.xor IntKind.u8 (bits BinOp.xor IntKind.u8 x31 (m / 8 % 2 * 128)) (m / 16 % 2 * 64)))) := Below.setCell (Below.setCell hB (by simp <;> omega) _) (by simp <;> omega) _
  clear HEL
  go_wp2_with (refine ld_bytes rfl _ rfl (w.heap.size + 1) (BA u) rfl g4' (BA_size _) ?_; refine Hid.out ?_)
  clear g3 g4 g7 g8 hB c0 c31 f0 f31
  generalize (v3.setCell ⟨b8, 0, none⟩ (.int .u8 (bits BinOp.xor IntKind.u8 x0 (m % 8)))).setCell ⟨b8, 31, none⟩ (.int .u8 (bits BinOp.xor IntKind.u8 (bits BinOp.xor IntKind.u8 x31 (m / 8 % 2 * 128)) (m / 16 % 2 * 64))) = v4 at *
  have hl8 := heap_lt g8'
  refine Hid.mk ?_
  go_wp2_with (refine st_bytesS (g := v4.heap.size) (n := u) (by rfl) (by rfl) (heap_alloc_new v4 _) (by rfl) ?_; intro v5 g9 o2; refine Hid.out ?_)
  have g3 := (o2.block _ (Nat.ne_of_lt (heap_lt g3'))).trans ((Below.heap_alloc v4 _ _ (heap_lt g3')).trans g3')
  have g4 := (o2.block _ (Nat.ne_of_lt (heap_lt g4'))).trans ((Below.heap_alloc v4 _ _ (heap_lt g4')).trans g4')
  have g7 := (o2.block _ (Nat.ne_of_lt (heap_lt g7'))).trans ((Below.heap_alloc v4 _ _ (heap_lt g7')).trans g7')
  have g8 := (o2.block _ (Nat.ne_of_lt (heap_lt g8'))).trans ((Below.heap_alloc v4 _ _ (heap_lt g8')).trans g8')
  have hB := Below.trans (hB'.alloc hB'.size _) (Only.below (b := v4.heap.size) (B := w.heap.size) o2 hB'.size)
  clear o2 g3' g4' g7' g8' hB'
  generalize v4.heap.size = b9 at *
  refine Hid.mk ?_
  have c9 := (cell_of_row v5 b9 31 _ _ _ g9).trans (BA_get u 31 (by omega))
  have f9 := frozen_of_row v5 b9 31 _ _ g9
  rw [hy31] at c9
  have g3' : (v5.setCell ⟨b9, 31, none⟩ (.int .u8 (bits BinOp.xor IntKind.u8 y31 128))).heap[w.heap.size]? = some (.cells (BA k) 22 (0, 0)) := (heap_setCell_other _ _ _ _ (by simp <;> omega)).trans g3
  have g4' : (v5.setCell ⟨b9, 31, none⟩ (.int .u8 (bits BinOp.xor IntKind.u8 y31 128))).heap[w.heap.size + 1]? = some (.cells (BA u) 22 (0, 0)) := (heap_setCell_other _ _ _ _ (by simp <;> omega)).trans g4
  have g7' : (v5.setCell ⟨b9, 31, none⟩ (.int .u8 (bits BinOp.xor IntKind.u8 y31 128))).heap[b7]? = some (.cells (BA s) 22 (0, 0)) := (heap_setCell_other _ _ _ _ (by simp <;> omega)).trans g7
  have g8' : (v5.setCell ⟨b9, 31, none⟩ (.int .u8 (bits BinOp.xor IntKind.u8 y31 128))).heap[b8]? = some (.cells (BA L) 22 (0, 0)) := (heap_setCell_other _ _ _ _ (by simp <;> omega)).trans g8
  have g9' : (v5.setCell ⟨b9, 31, none⟩ (.int .u8 (bits BinOp.xor IntKind.u8 y31 128))).heap[b9]? = some (.cells (BA V) 22 (0, 0)) := by
    rw [← HEV.out]
    exact heap_setCell_same _ _ _ _ _ _ g9
  have hB' : Below w.heap.size w (v5.setCell ⟨b9, 31, none⟩ (.int .u8 (bits BinOp.xor IntKind.u8 y31 128))) := Below.setCell hB (by simp <;> omega) _
  go_wp2_with (refine ld_bytes rfl _ rfl (w.heap.size + 1) (BA u) rfl g4' (BA_size _) ?_; refine Hid.out ?_)
  clear g3 g4 g7 g8 g9 hB c9 f9
  generalize (v5.setCell ⟨b9, 31, none⟩ (.int .u8 (bits BinOp.xor IntKind.u8 y31 128))) = v6 at *
  have hl9 := heap_lt g9'
  refine Hid.mk ?_
  go_wp2_with (refine st_bytesS (g := v6.heap.size) (n := u) (by rfl) (by rfl) (heap_alloc_new v6 _) (by rfl) ?_; intro v7 g10 o2; refine Hid.out ?_)
  have g3 := (o2.block _ (Nat.ne_of_lt (heap_lt g3'))).trans ((Below.heap_alloc v6 _ _ (heap_lt g3')).trans g3')
  have g7 := (o2.block _ (Nat.ne_of_lt (heap_lt g7'))).trans ((Below.heap_alloc v6 _ _ (heap_lt g7')).trans g7')
  have g8 := (o2.block _ (Nat.ne_of_lt (heap_lt g8'))).trans ((Below.heap_alloc v6 _ _ (heap_lt g8')).trans g8')
  have g9 := (o2.block _ (Nat.ne_of_lt (heap_lt g9'))).trans ((Below.heap_alloc v6 _ _ (heap_lt g9')).trans g9')
  have hB := Below.trans (hB'.alloc hB'.size _) (Only.below (b := v6.heap.size) (B := w.heap.size) o2 hB'.size)
  clear o2 g3' g4' g7' g8' g9' hB'
  generalize v6.heap.size = b10 at *
  refine Hid.mk ?_
  have c10 := (cell_of_row v7 b10 31 _ _ _ g10).trans (BA_get u 31 (by omega))
  have f10 := frozen_of_row v7 b10 31 _ _ g10
  rw [hy31] at c10
  go_wp2_with (refine ld_bytes rfl _ rfl b10 _ rfl (heap_setCell_same _ _ _ _ _ _ g10) (by simp [BA_size]) ?_; rw [HLU.out])
  refine (rcanon_any (u % W255) _ HUB.out).mono ?_
  rintro e v9 ⟨rfl, hb⟩
  rw [HX.out]
  replace g3 := bheap hb ((heap_setCell_other _ _ _ _ (by simp <;> omega)).trans g3) (by have := heap_lt g3; simp; omega)
  replace g7 := bheap hb ((heap_setCell_other _ _ _ _ (by simp <;> omega)).trans g7) (by have := heap_lt g7; simp; omega)
  replace g8 := bheap hb ((heap_setCell_other _ _ _ _ (by simp <;> omega)).trans g8) (by have := heap_lt g8; simp; omega)
  replace g9 := bheap hb ((heap_setCell_other _ _ _ _ (by simp <;> omega)).trans g9) (by have := heap_lt g9; simp; omega)
  replace g10 := bheap hb (heap_setCell_same _ _ _ _ _ _ g10) (by have := heap_lt g10; simp; omega)
  replace hB : Below w.heap.size w v9 := Below.trans (Below.setCell hB (by simp <;> omega) _) (hb.mono (by have := hB.size; simp; omega))
  clear hb c10 f10
  go_wp2_with (refine st_bytesS (g := b10) (n := X) (by rfl) (by rfl) g10 (by simp [BA_size]) ?_; intro v8 g10_ o2; refine Hid.out ?_)
  replace g3 := (o2.block _ (by omega)).trans g3
  replace g7 := (o2.block _ (by omega)).trans g7
  replace g8 := (o2.block _ (by omega)).trans g8
  replace g9 := (o2.block _ (by omega)).trans g9
  replace hB := Below.trans hB (Only.below (b := b10) (B := w.heap.size) o2 (by omega))
  clear o2 g10
  have g10 := g10_
  have hK : Keep w v8 := keep_below hz ⟨Below.refl _ _, HP.out⟩ hB
  clear g10_ hB HP
  refine Hid.mk ?_
  go_wp2_with fail
  refine wp_region3 (Keep w) v8.heap.size
    [(w.heap.size, fixd (BA k) 22), (b7, fixd (BA s) 22), (b8, fixd (BA L) 22), (b9, fixd (BA V) 22), (b10, fixd (BA X) 22)]
    (kv (.agg (BA L)) :: kv (.agg (BA V)) :: kv (.agg (BA s)) :: kv (.agg (BA s)) :: kv (.bool true) :: kv (.bool true) :: kv (.agg (BA k)) :: kv (.agg (BA (clampN k))) :: kv (.agg (BA X)) :: kv (.agg (BA s)) :: kv (.agg (BA s)) :: kv (.bool true) :: kv (.bool true) :: kv (.bool true) :: kv (.agg (BA s)) :: kv (.agg (BA s)) :: kv (.agg (BA s)) :: kv (.bool true) :: kv (.bool true) :: kv (.bool true) :: kv (.agg (BA k)) :: kv (.agg (BA (clampN k))) :: kv (.agg (BA (clampN k))) :: kv (.agg (BA L)) :: kv (.agg (BA (clampN k))) :: kv (.bool true) :: kv (.bool true) :: kv (.bool true) :: kv (.bool true) :: kv (.bool true) :: kv (.bool true) :: [])
    (.none :: .none :: .none :: .none :: .none :: .none :: .none :: .none :: .none :: .none :: .none :: .none :: .none :: .none :: .none :: .none :: .none :: .none :: .none :: .none :: .none :: .none :: .none :: .none :: .none :: .none :: .none :: .none :: .none :: .none :: .none :: [])
    (some 49 :: some 50 :: some 51 :: some 52 :: some 53 :: some 54 :: some 55 :: some 56 :: some 57 :: some 58 :: some 59 :: some 60 :: some 61 :: some 62 :: some 63 :: some 64 :: some 65 :: some 66 :: some 67 :: some 68 :: some 69 :: some 70 :: some 71 :: some 72 :: some 73 :: some 74 :: some 75 :: some 76 :: some 77 :: some 78 :: some 6 :: [])
    [(3, .pointer (some ⟨w.heap.size, 0, none⟩)), (7, .pointer (some ⟨b7, 0, none⟩)), (8, .pointer (some ⟨b8, 0, none⟩)), (9, .pointer (some ⟨b9, 0, none⟩)), (10, .pointer (some ⟨b10, 0, none⟩))]
    ([.base 2 0] :: [.base 3 0] :: [.slot 0, .slot 1] :: [.base 1 0] :: [.slot 2, .slot 3] :: [.slot 4] :: [.slot 5, .base 0 0] :: [.slot 5, .slot 6] :: [.slot 5, .base 4 0] :: [.slot 5, .slot 7, .slot 8] :: [.slot 5, .base 1 0] :: [.slot 5, .slot 9, .slot 10] :: [.slot 5, .slot 11] :: [.slot 12] :: [.slot 13, .base 1 0] :: [.slot 13, .slot 14] :: [.slot 13, .base 1 0] :: [.slot 13, .slot 15, .slot 16] :: [.slot 13, .slot 17] :: [.slot 18] :: [.slot 19, .base 0 0] :: [.slot 19, .slot 20] :: [.slot 19, .slot 21] :: [.slot 19, .base 2 0] :: [.slot 19, .slot 23] :: [.slot 19, .slot 22, .slot 24] :: [.slot 19, .slot 25] :: [.slot 26] :: [.slot 27] :: [.slot 27, .slot 28] :: [.slot 29] :: [])
    [.slot 30] (49 :: 50 :: 51 :: 52 :: 53 :: 54 :: 55 :: 56 :: 57 :: 58 :: 59 :: 60 :: 61 :: 62 :: 63 :: 64 :: 65 :: 66 :: 67 :: 68 :: 69 :: 70 :: 71 :: 72 :: 73 :: 74 :: 75 :: 76 :: 77 :: 78 :: 6 :: [])
    rfl (by kernel_rfl) ⟨rfl, rfl, rfl, rfl, rfl, trivial⟩ (keep_drew hK) (Nat.le_refl _) ⟨⟨heap_lt g3, obIn g3⟩, ⟨heap_lt g7, obIn g7⟩, ⟨heap_lt g8, obIn g8⟩, ⟨heap_lt g9, obIn g9⟩, ⟨heap_lt g10, obIn g10⟩, trivial⟩ ⟨⟨trivial, trivial, trivial, trivial, trivial⟩, ⟨trivial, trivial, trivial, trivial⟩, ⟨trivial, trivial, trivial⟩, ⟨trivial, trivial⟩, trivial, trivial⟩ (keep_G hz hK.1.size ⟨by omega, by omega, by omega, by omega, by omega, trivial⟩)
    ⟨
      -- 0
      (fun Q aq ww own hS hBg fr kn => .inl ⟨trivial, fun K hK => wp_value (lookb rfl fr.2.2.1 (obAt kn.1)) (hK _ _ ⟨Touch.refl _ _, rfl⟩)⟩),
      -- 1
      (fun Q aq ww own hS hBg fr kn => .inl ⟨trivial, fun K hK => wp_value (lookb rfl fr.2.2.2.1 (obAt kn.1)) (hK _ _ ⟨Touch.refl _ _, rfl⟩)⟩),
      -- 2
      (fun Q aq ww own hS hBg fr kn => .inl ⟨trivial, fun K hK => stepc2 enterMult rfl kn.1 kn.2.1 (mult_any L V ww hS.2 NL) (fun w' hb => hK _ _ ⟨touch_below hb, (congrArg (fun n => Value.agg (BA n)) HLV.out)⟩)⟩),
      -- 3
      (fun Q aq ww own hS hBg fr kn => .inl ⟨trivial, fun K hK => wp_value (lookb rfl fr.2.1 (obAt kn.1)) (hK _ _ ⟨Touch.refl _ _, rfl⟩)⟩),
      -- 4
      (fun Q aq ww own hS hBg fr kn => .inl ⟨trivial, fun K hK => wp_value (eql_same _ _ _ rfl _ kn.1 kn.2.1) (hK _ _ ⟨Touch.refl _ _, rfl⟩)⟩),
      -- 5
      (fun Q aq ww own hS hBg fr kn => .inl ⟨trivial, fun K hK => wp_value (exec_move _ rfl) (hK _ _ ⟨Touch.refl _ _, kn.1⟩)⟩),
      -- 6
      (fun Q aq ww own hS hBg fr kn => .inl ⟨kn.1, fun K hK => wp_value (lookb rfl fr.1 (obAt kn.2.1)) (hK _ _ ⟨Touch.refl _ _, rfl⟩)⟩),
      -- 7
      (fun Q aq ww own hS hBg fr kn => .inl ⟨kn.1, fun K hK => stepc1 enterClamp rfl kn.2.1 (clamp_any k ww Nk) (fun w' hb => hK _ _ ⟨touch_below hb, rfl⟩)⟩),
      -- 8
      (fun Q aq ww own hS hBg fr kn => .inl ⟨kn.1, fun K hK => wp_value (lookb rfl fr.2.2.2.2.1 (obAt kn.2.1)) (hK _ _ ⟨Touch.refl _ _, rfl⟩)⟩),
      -- 9
      (fun Q aq ww own hS hBg fr kn => .inl ⟨kn.1, fun K hK => stepc2 enterMult rfl kn.2.1 kn.2.2.1 (mult_any (clampN k) X ww hS.2 (clampN_256 k)) (fun w' hb => hK _ _ ⟨touch_below hb, (congrArg (fun n => Value.agg (BA n)) HCX.out)⟩)⟩),
      -- 10
      (fun Q aq ww own hS hBg fr kn => .inl ⟨kn.1, fun K hK => wp_value (lookb rfl fr.2.1 (obAt kn.2.1)) (hK _ _ ⟨Touch.refl _ _, rfl⟩)⟩),
      -- 11
      (fun Q aq ww own hS hBg fr kn => .inl ⟨kn.1, fun K hK => wp_value (eql_same _ _ _ rfl _ kn.2.1 kn.2.2.1) (hK _ _ ⟨Touch.refl _ _, rfl⟩)⟩),
      -- 12
      (fun Q aq ww own hS hBg fr kn => .inl ⟨trivial, fun K hK => wp_value (exec_pick _ _ _ rfl kn.1) (hK _ _ ⟨Touch.refl _ _, kn.2.1⟩)⟩),
      -- 13
      (fun Q aq ww own hS hBg fr kn => .inl ⟨trivial, fun K hK => wp_value (exec_move _ rfl) (hK _ _ ⟨Touch.refl _ _, kn.1⟩)⟩),
      -- 14
      (fun Q aq ww own hS hBg fr kn => .inl ⟨kn.1, fun K hK => wp_value (lookb rfl fr.2.1 (obAt kn.2.1)) (hK _ _ ⟨Touch.refl _ _, rfl⟩)⟩),
      -- 15
      (fun Q aq ww own hS hBg fr kn => .inl ⟨kn.1, fun K hK => stepc1 enterCanon rfl kn.2.1 (canon_any s ww Ns.1 Ns.2) (fun w' hb => hK _ _ ⟨touch_below hb, (congrArg (fun n => Value.agg (BA n)) HMS.out)⟩)⟩),
      -- 16
      (fun Q aq ww own hS hBg fr kn => .inl ⟨kn.1, fun K hK => wp_value (lookb rfl fr.2.1 (obAt kn.2.1)) (hK _ _ ⟨Touch.refl _ _, rfl⟩)⟩),
      -- 17
      (fun Q aq ww own hS hBg fr kn => .inl ⟨kn.1, fun K hK => wp_value (eql_same _ _ _ rfl _ kn.2.1 kn.2.2.1) (hK _ _ ⟨Touch.refl _ _, rfl⟩)⟩),
      -- 18
      (fun Q aq ww own hS hBg fr kn => .inl ⟨trivial, fun K hK => wp_value (exec_pick _ _ _ rfl kn.1) (hK _ _ ⟨Touch.refl _ _, kn.2.1⟩)⟩),
      -- 19
      (fun Q aq ww own hS hBg fr kn => .inl ⟨trivial, fun K hK => wp_value (exec_move _ rfl) (hK _ _ ⟨Touch.refl _ _, kn.1⟩)⟩),
      -- 20
      (fun Q aq ww own hS hBg fr kn => .inl ⟨kn.1, fun K hK => wp_value (lookb rfl fr.1 (obAt kn.2.1)) (hK _ _ ⟨Touch.refl _ _, rfl⟩)⟩),
      -- 21
      (fun Q aq ww own hS hBg fr kn => .inl ⟨kn.1, fun K hK => stepc1 enterClamp rfl kn.2.1 (clamp_any k ww Nk) (fun w' hb => hK _ _ ⟨touch_below hb, rfl⟩)⟩),
      -- 22
      (fun Q aq ww own hS hBg fr kn => .inl ⟨kn.1, fun K hK => stepc1 enterClamp rfl kn.2.1 (clamp_any (clampN k) ww (clampN_256 k)) (fun w' hb => hK _ _ ⟨touch_below hb, (congrArg (fun n => Value.agg (BA n)) (clampN_clampN k))⟩)⟩),
      -- 23
      (fun Q aq ww own hS hBg fr kn => .inl ⟨kn.1, fun K hK => wp_value (lookb rfl fr.2.2.1 (obAt kn.2.1)) (hK _ _ ⟨Touch.refl _ _, rfl⟩)⟩),
      -- 24
      (fun Q aq ww own hS hBg fr kn => .inl ⟨kn.1, fun K hK => stepc1 enterClamp rfl kn.2.1 (clamp_any L ww NL) (fun w' hb => hK _ _ ⟨touch_below hb, (congrArg (fun n => Value.agg (BA n)) HCL.out)⟩)⟩),
      -- 25
      (fun Q aq ww own hS hBg fr kn => .inl ⟨kn.1, fun K hK => wp_value (eql_same _ _ _ rfl _ kn.2.1 kn.2.2.1) (hK _ _ ⟨Touch.refl _ _, rfl⟩)⟩),
      -- 26
      (fun Q aq ww own hS hBg fr kn => .inl ⟨trivial, fun K hK => wp_value (exec_pick _ _ _ rfl kn.1) (hK _ _ ⟨Touch.refl _ _, kn.2.1⟩)⟩),
      -- 27
      (fun Q aq ww own hS hBg fr kn => .inl ⟨trivial, fun K hK => wp_value (exec_move _ rfl) (hK _ _ ⟨Touch.refl _ _, kn.1⟩)⟩),
      -- 28
      (fun Q aq ww own hS hBg fr kn => .inl ⟨kn.1, fun K hK => stepc0 enterAwake2 rfl (awake2_any ww hS.2) (fun w' hb => hK _ _ ⟨touch_below hb, rfl⟩)⟩),
      -- 29
      (fun Q aq ww own hS hBg fr kn => .inl ⟨trivial, fun K hK => wp_value (exec_pick _ _ _ rfl kn.1) (hK _ _ ⟨Touch.refl _ _, kn.2.1⟩)⟩),
      -- 30
      (fun Q aq ww own hS hBg fr kn => .inl ⟨trivial, fun K hK => wp_value (exec_assign _ rfl) (hK _ _ ⟨Touch.refl _ _, kn.1⟩)⟩),
      trivial⟩ ?_
  intro vs own v10 hK10 hs10 kn inj
  have e6 : vs 6 = .bool true := kn.1
  clear kn inj
  simp only [putAll, Act.put, List.setIfInBounds_toArray, List.set_cons_zero, List.set_cons_succ, e6]
  go_wp2
  go_ret
  exact ⟨rfl, hK10.1⟩
end Go.Proofs.YtpcpcgfljffkeaaDoor
