/-
  Own text. The law FieldRules answers true at every input, walked over the translation.
-/
import Derived.Test.YtgklkkjhoecdoaaDoorH1
namespace Go.Proofs.YtgklkkjhoecdoaaDoor
open Go.RowKit Go.Proofs
theorem rule_add (a b c : Int) : ((c + a) % P255 + b) % P255 = (a + (b + c)) % P255 := by rw [Int.emod_add_emod]; congr 1; omega
theorem rule_sub (a b : Int) : ((a - b) % P255 + b) % P255 = a % P255 := by rw [Int.emod_add_emod]; congr 1; omega
theorem rule_mul (a b c : Int) : ((c * a) % P255 * b) % P255 = (a * (b * c)) % P255 := by rw [Int.mul_emod, Int.emod_emod, ← Int.mul_emod]; congr 1; grind
theorem rule_dist (a b c : Int) : (a * ((b + c) % P255)) % P255 = (a * b + a * c) % P255 := by rw [Int.mul_emod, Int.emod_emod, ← Int.mul_emod, Int.mul_add]
theorem rule_sum (a b c : Int) : ((a * b) % P255 + (a * c) % P255) % P255 = (a * b + a * c) % P255 := by rw [← Int.add_emod]
theorem top_small {d : Int} (h0 : 0 ≤ d) (h1 : d < P255) : byt d 31 < 128 := by unfold byt P255 at *; omega
theorem rule_self (a : Int) : (a - a) % P255 = 0 := by rw [Int.sub_self]; rfl
set_option maxHeartbeats 4000000 in
set_option maxRecDepth 100000 in
theorem rules_walk (a b c : Int) (w : World) (hP : PrimeAt w) (ha : N256 a) (hb : N256 b) (hc : N256 c) :
    Calls Tryd.prog 7 #[.agg (BA a), .agg (BA b), .agg (BA c)] w fun r w' => r = .returned (.bool true) ∧ Below w.heap.size w w' := by
  have hp0 := primeAt_pos hP
  have HP := Hid.mk hP
  clear hP
  have E11 := Hid.mk (rule_add a b c)
  have E19 := Hid.mk (rule_sub a b)
  have E27 := Hid.mk (rule_self a)
  have F11 := Hid.mk (rule_mul a b c)
  have F20 := Hid.mk (rule_dist a b c)
  have F30 := Hid.mk (rule_sum a b c)
  go_enter Tryd.func7, Tryd.ntmps7
  go_wp2
  refine wp_gen (fun v => v.heap[w.heap.size]? = some (.cells (BA a) 24 (0, 0)) ∧ v.heap[w.heap.size + 1]? = some (.cells (BA b) 24 (0, 0)) ∧ v.heap[w.heap.size + 1 + 1]? = some (.cells (BA c) 24 (0, 0)) ∧ Below w.heap.size w v) ⟨heap_a31 w _ _ _, heap_a32 w _ _ _, heap_a3 w _ _ _, by repeat first | exact Below.refl _ _ | refine Below.alloc ?_ (by simp <;> omega) _⟩ ?_
  rintro v0 hS0
  refine wp_region_steps (fun v => v.heap[w.heap.size]? = some (.cells (BA a) 24 (0, 0)) ∧ v.heap[w.heap.size + 1]? = some (.cells (BA b) 24 (0, 0)) ∧ v.heap[w.heap.size + 1 + 1]? = some (.cells (BA c) 24 (0, 0)) ∧ Below w.heap.size w v) (fun v v' => Below v.heap.size v v') (known [(none, .agg (BA a)), (none, .agg (BA b)), (none, .agg (BA c)), (some [a, b, c], undef), (none, .agg (BA ((a + (b + c)) % P255))), (none, .agg (BA c)), (none, .agg (BA a)), (some [c, a], undef), (none, .agg (BA ((c + a) % P255))), (none, .agg (BA b)), (some [(c + a) % P255, b], undef), (none, .agg (BA ((a + (b + c)) % P255))), (none, .bool true), (none, .bool true), (none, .agg (BA a)), (none, .agg (BA b)), (none, .agg (BA ((a - b) % P255))), (none, .agg (BA b)), (some [(a - b) % P255, b], undef), (none, .agg (BA (a % P255))), (none, .agg (BA a)), (none, .agg (BA (a % P255))), (none, .bool true), (none, .bool true), (none, .bool true), (none, .agg (BA a)), (none, .agg (BA a)), (none, .agg (BA 0)), (none, .agg (BA 0)), (none, .bool true), (none, .bool true), (none, .bool true)]) [11, 12, 13, 14, 15, 16, 17, 18, 19, 20, 21, 22, 23, 24, 25, 26, 27, 28, 29, 30, 31, 32, 33, 34, 35, 36, 37, 38, 39, 40, 41, 7]
    [(3, .pointer (some ⟨w.heap.size, 0, none⟩)), (4, .pointer (some ⟨w.heap.size + 1, 0, none⟩)), (5, .pointer (some ⟨w.heap.size + 1 + 1, 0, none⟩))] [[], [], [], [0, 1, 2], [3], [], [], [5, 6], [7], [], [8, 9], [10], [4, 11], [12], [13], [13], [13, 14, 15], [13], [13, 16, 17], [13, 18], [13], [13, 20], [13, 19, 21], [13, 22], [23], [24], [24], [24, 25, 26], [24], [24, 27, 28], [24, 29], [30]] rfl (by kernel_rfl) ⟨rfl, rfl, rfl, trivial⟩ ⟨hS0.1, hS0.2.1, hS0.2.2.1, Below.drew hS0.2.2.2⟩ (fun v v' h hb => ⟨bheap hb h.1 (heap_lt h.1), bheap hb h.2.1 (heap_lt h.2.1), bheap hb h.2.2.1 (heap_lt h.2.2.1), Below.trans h.2.2.2 (hb.mono h.2.2.2.size)⟩) (known_keeps _)
    ⟨
      -- 0
      (fun Q a1 w hS fr kn => ⟨trivial, fun K hK => wp_value (look_bytes rfl _ _ fr.1 (BA_size _) hS.1) (hK _ _ rfl (Below.refl _ _))⟩),
      -- 1
      (fun Q a1 w hS fr kn => ⟨trivial, fun K hK => wp_value (look_bytes rfl _ _ fr.2.1 (BA_size _) hS.2.1) (hK _ _ rfl (Below.refl _ _))⟩),
      -- 2
      (fun Q a1 w hS fr kn => ⟨trivial, fun K hK => wp_value (look_bytes rfl _ _ fr.2.2.1 (BA_size _) hS.2.2.1) (hK _ _ rfl (Below.refl _ _))⟩),
      -- 3
      (fun Q a1 w hS fr kn => ⟨trivial, fun K hK => act_bs3 _ _ _ rfl _ _ _ kn.1 kn.2.1 kn.2.2.1 (fun v hr hs hb => hK _ _ ⟨_, rfl, hr, hs⟩ hb)⟩),
      -- 4
      (fun Q a1 w hS fr kn => ⟨trivial, fun K hK => by
        obtain ⟨bk, ek, hr, hs⟩ := kn.1
        exact call1 enterAdd _ _ rfl _ _ ek (add3 _ _ _ bk w ha hb hc hr hs) (fun w' hb => hK _ _ rfl hb)⟩),
      -- 5
      (fun Q a1 w hS fr kn => ⟨trivial, fun K hK => wp_value (look_bytes rfl _ _ fr.2.2.1 (BA_size _) hS.2.2.1) (hK _ _ rfl (Below.refl _ _))⟩),
      -- 6
      (fun Q a1 w hS fr kn => ⟨trivial, fun K hK => wp_value (look_bytes rfl _ _ fr.1 (BA_size _) hS.1) (hK _ _ rfl (Below.refl _ _))⟩),
      -- 7
      (fun Q a1 w hS fr kn => ⟨trivial, fun K hK => act_bs2 _ _ rfl _ _ kn.1 kn.2.1 (fun v hr hs hb => hK _ _ ⟨_, rfl, hr, hs⟩ hb)⟩),
      -- 8
      (fun Q a1 w hS fr kn => ⟨trivial, fun K hK => by
        obtain ⟨bk, ek, hr, hs⟩ := kn.1
        exact call1 enterAdd _ _ rfl _ _ ek (add2 _ _ bk w hc ha hr hs) (fun w' hb => hK _ _ rfl hb)⟩),
      -- 9
      (fun Q a1 w hS fr kn => ⟨trivial, fun K hK => wp_value (look_bytes rfl _ _ fr.2.1 (BA_size _) hS.2.1) (hK _ _ rfl (Below.refl _ _))⟩),
      -- 10
      (fun Q a1 w hS fr kn => ⟨trivial, fun K hK => act_bs2 _ _ rfl _ _ kn.1 kn.2.1 (fun v hr hs hb => hK _ _ ⟨_, rfl, hr, hs⟩ hb)⟩),
      -- 11
      (fun Q a1 w hS fr kn => ⟨trivial, fun K hK => by
        obtain ⟨bk, ek, hr, hs⟩ := kn.1
        exact call1 enterAdd _ _ rfl _ _ ek (add2 _ _ bk w (N256.mod _) hb hr hs) (fun w' hb => hK _ _ (by rw [E11.out]; rfl) hb)⟩),
      -- 12
      (fun Q a1 w hS fr kn => ⟨trivial, fun K hK => wp_value (eql_same _ _ _ rfl _ kn.1 kn.2.1) (hK _ _ rfl (Below.refl _ _))⟩),
      -- 13
      (fun Q a1 w hS fr kn => ⟨trivial, fun K hK => wp_value (exec_move _ rfl) (hK _ _ kn.1 (Below.refl _ _))⟩),
      -- 14
      (fun Q a1 w hS fr kn => ⟨kn.1, fun K hK => wp_value (look_bytes rfl _ _ fr.1 (BA_size _) hS.1) (hK _ _ rfl (Below.refl _ _))⟩),
      -- 15
      (fun Q a1 w hS fr kn => ⟨kn.1, fun K hK => wp_value (look_bytes rfl _ _ fr.2.1 (BA_size _) hS.2.1) (hK _ _ rfl (Below.refl _ _))⟩),
      -- 16
      (fun Q a1 w hS fr kn => ⟨kn.1, fun K hK => call2 enterSub _ _ _ rfl _ _ _ kn.2.1 kn.2.2.1 (sub_any a b w (primeAt_below HP.out hS.2.2.2 hp0) ha.1 ha.2 hb.1 hb.2) (fun w' hb => hK _ _ rfl hb)⟩),
      -- 17
      (fun Q a1 w hS fr kn => ⟨kn.1, fun K hK => wp_value (look_bytes rfl _ _ fr.2.1 (BA_size _) hS.2.1) (hK _ _ rfl (Below.refl _ _))⟩),
      -- 18
      (fun Q a1 w hS fr kn => ⟨kn.1, fun K hK => act_bs2 _ _ rfl _ _ kn.2.1 kn.2.2.1 (fun v hr hs hb => hK _ _ ⟨_, rfl, hr, hs⟩ hb)⟩),
      -- 19
      (fun Q a1 w hS fr kn => ⟨kn.1, fun K hK => by
        obtain ⟨bk, ek, hr, hs⟩ := kn.2.1
        exact call1 enterAdd _ _ rfl _ _ ek (add2 _ _ bk w (N256.mod _) hb hr hs) (fun w' hb => hK _ _ (by rw [E19.out]; rfl) hb)⟩),
      -- 20
      (fun Q a1 w hS fr kn => ⟨kn.1, fun K hK => wp_value (look_bytes rfl _ _ fr.1 (BA_size _) hS.1) (hK _ _ rfl (Below.refl _ _))⟩),
      -- 21
      (fun Q a1 w hS fr kn => ⟨kn.1, fun K hK => call1 enterCanon _ _ rfl _ _ kn.2.1 (canon_any a w ha.1 ha.2) (fun w' hb => hK _ _ rfl hb)⟩),
      -- 22
      (fun Q a1 w hS fr kn => ⟨kn.1, fun K hK => wp_value (eql_same _ _ _ rfl _ kn.2.1 kn.2.2.1) (hK _ _ rfl (Below.refl _ _))⟩),
      -- 23
      (fun Q a1 w hS fr kn => ⟨trivial, fun K hK => wp_value (exec_pick _ _ _ rfl kn.1) (hK _ _ kn.2.1 (Below.refl _ _))⟩),
      -- 24
      (fun Q a1 w hS fr kn => ⟨trivial, fun K hK => wp_value (exec_move _ rfl) (hK _ _ kn.1 (Below.refl _ _))⟩),
      -- 25
      (fun Q a1 w hS fr kn => ⟨kn.1, fun K hK => wp_value (look_bytes rfl _ _ fr.1 (BA_size _) hS.1) (hK _ _ rfl (Below.refl _ _))⟩),
      -- 26
      (fun Q a1 w hS fr kn => ⟨kn.1, fun K hK => wp_value (look_bytes rfl _ _ fr.1 (BA_size _) hS.1) (hK _ _ rfl (Below.refl _ _))⟩),
      -- 27
      (fun Q a1 w hS fr kn => ⟨kn.1, fun K hK => call2 enterSub _ _ _ rfl _ _ _ kn.2.1 kn.2.2.1 (sub_any a a w (primeAt_below HP.out hS.2.2.2 hp0) ha.1 ha.2 ha.1 ha.2) (fun w' hb => hK _ _ (by rw [E27.out]; rfl) hb)⟩),
      -- 28
      (fun Q a1 w hS fr kn => ⟨kn.1, fun K hK => wp_value (exec_build0 rfl) (hK _ _ rfl (Below.refl _ _))⟩),
      -- 29
      (fun Q a1 w hS fr kn => ⟨kn.1, fun K hK => wp_value (eql_same _ _ _ rfl _ kn.2.1 kn.2.2.1) (hK _ _ rfl (Below.refl _ _))⟩),
      -- 30
      (fun Q a1 w hS fr kn => ⟨trivial, fun K hK => wp_value (exec_pick _ _ _ rfl kn.1) (hK _ _ kn.2.1 (Below.refl _ _))⟩),
      -- 31
      (fun Q a1 w hS fr kn => ⟨trivial, fun K hK => wp_value (exec_assign _ rfl) (hK _ _ kn.1 (Below.refl _ _))⟩),
      trivial⟩ ?_

  intro vs v1 hS1 hk1
  have e7 : vs 7 = .bool true := hk1 31 (by decide)
  simp only [putAll, Act.put, List.setIfInBounds_toArray, List.set_cons_zero, List.set_cons_succ, e7]
  clear hk1 e7 hS0
  go_wp2
  refine wp_region_steps (fun v => v.heap[w.heap.size]? = some (.cells (BA a) 24 (0, 0)) ∧ v.heap[w.heap.size + 1]? = some (.cells (BA b) 24 (0, 0)) ∧ v.heap[w.heap.size + 1 + 1]? = some (.cells (BA c) 24 (0, 0)) ∧ Below w.heap.size w v) (fun v v' => Below v.heap.size v v') (known [(none, .agg (BA a)), (none, .agg (BA b)), (none, .agg (BA c)), (some [a, b, c], undef), (none, .agg (BA ((a * (b * c)) % P255))), (none, .agg (BA c)), (none, .agg (BA a)), (some [c, a], undef), (none, .agg (BA ((c * a) % P255))), (none, .agg (BA b)), (some [(c * a) % P255, b], undef), (none, .agg (BA ((a * (b * c)) % P255))), (none, .bool true), (none, .bool true), (none, .agg (BA a)), (none, .agg (BA b)), (none, .agg (BA c)), (some [b, c], undef), (none, .agg (BA ((b + c) % P255))), (some [a, (b + c) % P255], undef), (none, .agg (BA ((a * b + a * c) % P255))), (none, .agg (BA a)), (none, .agg (BA b)), (some [a, b], undef), (none, .agg (BA ((a * b) % P255))), (none, .agg (BA a)), (none, .agg (BA c)), (some [a, c], undef), (none, .agg (BA ((a * c) % P255))), (some [(a * b) % P255, (a * c) % P255], undef), (none, .agg (BA ((a * b + a * c) % P255))), (none, .bool true), (none, .bool true), (none, .bool true)]) [42, 43, 44, 45, 46, 47, 48, 49, 50, 51, 52, 53, 54, 55, 56, 57, 58, 59, 60, 61, 62, 63, 64, 65, 66, 67, 68, 69, 70, 71, 72, 73, 74, 8]
    [(3, .pointer (some ⟨w.heap.size, 0, none⟩)), (4, .pointer (some ⟨w.heap.size + 1, 0, none⟩)), (5, .pointer (some ⟨w.heap.size + 1 + 1, 0, none⟩))] [[], [], [], [0, 1, 2], [3], [], [], [5, 6], [7], [], [8, 9], [10], [4, 11], [12], [13], [13], [13], [13, 15, 16], [13, 17], [13, 14, 18], [13, 19], [13], [13], [13, 21, 22], [13, 23], [13], [13], [13, 25, 26], [13, 27], [13, 24, 28], [13, 29], [13, 20, 30], [13, 31], [32]] rfl (by kernel_rfl) ⟨rfl, rfl, rfl, trivial⟩ ⟨hS1.1, hS1.2.1, hS1.2.2.1, Below.drew hS1.2.2.2⟩ (fun v v' h hb => ⟨bheap hb h.1 (heap_lt h.1), bheap hb h.2.1 (heap_lt h.2.1), bheap hb h.2.2.1 (heap_lt h.2.2.1), Below.trans h.2.2.2 (hb.mono h.2.2.2.size)⟩) (known_keeps _)
    ⟨
      -- 0
      (fun Q a1 w hS fr kn => ⟨trivial, fun K hK => wp_value (look_bytes rfl _ _ fr.1 (BA_size _) hS.1) (hK _ _ rfl (Below.refl _ _))⟩),
      -- 1
      (fun Q a1 w hS fr kn => ⟨trivial, fun K hK => wp_value (look_bytes rfl _ _ fr.2.1 (BA_size _) hS.2.1) (hK _ _ rfl (Below.refl _ _))⟩),
      -- 2
      (fun Q a1 w hS fr kn => ⟨trivial, fun K hK => wp_value (look_bytes rfl _ _ fr.2.2.1 (BA_size _) hS.2.2.1) (hK _ _ rfl (Below.refl _ _))⟩),
      -- 3
      (fun Q a1 w hS fr kn => ⟨trivial, fun K hK => act_bs3 _ _ _ rfl _ _ _ kn.1 kn.2.1 kn.2.2.1 (fun v hr hs hb => hK _ _ ⟨_, rfl, hr, hs⟩ hb)⟩),
      -- 4
      (fun Q a1 w hS fr kn => ⟨trivial, fun K hK => by
        obtain ⟨bk, ek, hr, hs⟩ := kn.1
        exact call1 enterMul _ _ rfl _ _ ek (mul3 _ _ _ bk w ha hb hc hr hs) (fun w' hb => hK _ _ rfl hb)⟩),
      -- 5
      (fun Q a1 w hS fr kn => ⟨trivial, fun K hK => wp_value (look_bytes rfl _ _ fr.2.2.1 (BA_size _) hS.2.2.1) (hK _ _ rfl (Below.refl _ _))⟩),
      -- 6
      (fun Q a1 w hS fr kn => ⟨trivial, fun K hK => wp_value (look_bytes rfl _ _ fr.1 (BA_size _) hS.1) (hK _ _ rfl (Below.refl _ _))⟩),
      -- 7
      (fun Q a1 w hS fr kn => ⟨trivial, fun K hK => act_bs2 _ _ rfl _ _ kn.1 kn.2.1 (fun v hr hs hb => hK _ _ ⟨_, rfl, hr, hs⟩ hb)⟩),
      -- 8
      (fun Q a1 w hS fr kn => ⟨trivial, fun K hK => by
        obtain ⟨bk, ek, hr, hs⟩ := kn.1
        exact call1 enterMul _ _ rfl _ _ ek (mul2 _ _ bk w hc ha hr hs) (fun w' hb => hK _ _ rfl hb)⟩),
      -- 9
      (fun Q a1 w hS fr kn => ⟨trivial, fun K hK => wp_value (look_bytes rfl _ _ fr.2.1 (BA_size _) hS.2.1) (hK _ _ rfl (Below.refl _ _))⟩),
      -- 10
      (fun Q a1 w hS fr kn => ⟨trivial, fun K hK => act_bs2 _ _ rfl _ _ kn.1 kn.2.1 (fun v hr hs hb => hK _ _ ⟨_, rfl, hr, hs⟩ hb)⟩),
      -- 11
      (fun Q a1 w hS fr kn => ⟨trivial, fun K hK => by
        obtain ⟨bk, ek, hr, hs⟩ := kn.1
        exact call1 enterMul _ _ rfl _ _ ek (mul2 _ _ bk w (N256.mod _) hb hr hs) (fun w' hb => hK _ _ (by rw [F11.out]; rfl) hb)⟩),
      -- 12
      (fun Q a1 w hS fr kn => ⟨trivial, fun K hK => wp_value (eql_same _ _ _ rfl _ kn.1 kn.2.1) (hK _ _ rfl (Below.refl _ _))⟩),
      -- 13
      (fun Q a1 w hS fr kn => ⟨trivial, fun K hK => wp_value (exec_move _ rfl) (hK _ _ kn.1 (Below.refl _ _))⟩),
      -- 14
      (fun Q a1 w hS fr kn => ⟨kn.1, fun K hK => wp_value (look_bytes rfl _ _ fr.1 (BA_size _) hS.1) (hK _ _ rfl (Below.refl _ _))⟩),
      -- 15
      (fun Q a1 w hS fr kn => ⟨kn.1, fun K hK => wp_value (look_bytes rfl _ _ fr.2.1 (BA_size _) hS.2.1) (hK _ _ rfl (Below.refl _ _))⟩),
      -- 16
      (fun Q a1 w hS fr kn => ⟨kn.1, fun K hK => wp_value (look_bytes rfl _ _ fr.2.2.1 (BA_size _) hS.2.2.1) (hK _ _ rfl (Below.refl _ _))⟩),
      -- 17
      (fun Q a1 w hS fr kn => ⟨kn.1, fun K hK => act_bs2 _ _ rfl _ _ kn.2.1 kn.2.2.1 (fun v hr hs hb => hK _ _ ⟨_, rfl, hr, hs⟩ hb)⟩),
      -- 18
      (fun Q a1 w hS fr kn => ⟨kn.1, fun K hK => by
        obtain ⟨bk, ek, hr, hs⟩ := kn.2.1
        exact call1 enterAdd _ _ rfl _ _ ek (add2 _ _ bk w hb hc hr hs) (fun w' hb => hK _ _ rfl hb)⟩),
      -- 19
      (fun Q a1 w hS fr kn => ⟨kn.1, fun K hK => act_bs2 _ _ rfl _ _ kn.2.1 kn.2.2.1 (fun v hr hs hb => hK _ _ ⟨_, rfl, hr, hs⟩ hb)⟩),
      -- 20
      (fun Q a1 w hS fr kn => ⟨kn.1, fun K hK => by
        obtain ⟨bk, ek, hr, hs⟩ := kn.2.1
        exact call1 enterMul _ _ rfl _ _ ek (mul2 _ _ bk w ha (N256.mod _) hr hs) (fun w' hb => hK _ _ (by rw [F20.out]; rfl) hb)⟩),
      -- 21
      (fun Q a1 w hS fr kn => ⟨kn.1, fun K hK => wp_value (look_bytes rfl _ _ fr.1 (BA_size _) hS.1) (hK _ _ rfl (Below.refl _ _))⟩),
      -- 22
      (fun Q a1 w hS fr kn => ⟨kn.1, fun K hK => wp_value (look_bytes rfl _ _ fr.2.1 (BA_size _) hS.2.1) (hK _ _ rfl (Below.refl _ _))⟩),
      -- 23
      (fun Q a1 w hS fr kn => ⟨kn.1, fun K hK => act_bs2 _ _ rfl _ _ kn.2.1 kn.2.2.1 (fun v hr hs hb => hK _ _ ⟨_, rfl, hr, hs⟩ hb)⟩),
      -- 24
      (fun Q a1 w hS fr kn => ⟨kn.1, fun K hK => by
        obtain ⟨bk, ek, hr, hs⟩ := kn.2.1
        exact call1 enterMul _ _ rfl _ _ ek (mul2 _ _ bk w ha hb hr hs) (fun w' hb => hK _ _ rfl hb)⟩),
      -- 25
      (fun Q a1 w hS fr kn => ⟨kn.1, fun K hK => wp_value (look_bytes rfl _ _ fr.1 (BA_size _) hS.1) (hK _ _ rfl (Below.refl _ _))⟩),
      -- 26
      (fun Q a1 w hS fr kn => ⟨kn.1, fun K hK => wp_value (look_bytes rfl _ _ fr.2.2.1 (BA_size _) hS.2.2.1) (hK _ _ rfl (Below.refl _ _))⟩),
      -- 27
      (fun Q a1 w hS fr kn => ⟨kn.1, fun K hK => act_bs2 _ _ rfl _ _ kn.2.1 kn.2.2.1 (fun v hr hs hb => hK _ _ ⟨_, rfl, hr, hs⟩ hb)⟩),
      -- 28
      (fun Q a1 w hS fr kn => ⟨kn.1, fun K hK => by
        obtain ⟨bk, ek, hr, hs⟩ := kn.2.1
        exact call1 enterMul _ _ rfl _ _ ek (mul2 _ _ bk w ha hc hr hs) (fun w' hb => hK _ _ rfl hb)⟩),
      -- 29
      (fun Q a1 w hS fr kn => ⟨kn.1, fun K hK => act_bs2 _ _ rfl _ _ kn.2.1 kn.2.2.1 (fun v hr hs hb => hK _ _ ⟨_, rfl, hr, hs⟩ hb)⟩),
      -- 30
      (fun Q a1 w hS fr kn => ⟨kn.1, fun K hK => by
        obtain ⟨bk, ek, hr, hs⟩ := kn.2.1
        exact call1 enterAdd _ _ rfl _ _ ek (add2 _ _ bk w (N256.mod _) (N256.mod _) hr hs) (fun w' hb => hK _ _ (by rw [F30.out]; rfl) hb)⟩),
      -- 31
      (fun Q a1 w hS fr kn => ⟨kn.1, fun K hK => wp_value (eql_same _ _ _ rfl _ kn.2.1 kn.2.2.1) (hK _ _ rfl (Below.refl _ _))⟩),
      -- 32
      (fun Q a1 w hS fr kn => ⟨trivial, fun K hK => wp_value (exec_pick _ _ _ rfl kn.1) (hK _ _ kn.2.1 (Below.refl _ _))⟩),
      -- 33
      (fun Q a1 w hS fr kn => ⟨trivial, fun K hK => wp_value (exec_assign _ rfl) (hK _ _ kn.1 (Below.refl _ _))⟩),
      trivial⟩ ?_

  intro vs2 v2 hS2 hk2
  have e8 : vs2 8 = .bool true := hk2 33 (by decide)
  simp only [putAll, Act.put, List.setIfInBounds_toArray, List.set_cons_zero, List.set_cons_succ, e8]
  clear hk2 e8 hS1
  obtain ⟨ga, gb, gc, hB⟩ := hS2
  go_wp2_with (first | (refine ld_bytes rfl _ rfl _ _ rfl ga (BA_size _) ?_) | (refine ld_bytes rfl _ rfl _ _ rfl gb (BA_size _) ?_) | (refine wl_act rfl (act_bs2 _ _ rfl _ _ rfl rfl ?_); intro v3 r3 s3 b3))
  refine (mul2 _ _ _ _ ha hb r3 s3).mono ?_
  rintro r v4 ⟨rfl, hb4⟩
  have hB3 := Below.trans hB (b3.mono hB.size)
  have hB4 := Below.trans hB3 (hb4.mono hB3.size)
  have ga4 := bheap hb4 (bheap b3 ga (heap_lt ga)) (heap_lt (bheap b3 ga (heap_lt ga)))
  clear ga gb gc hB b3 r3 s3 hb4 hB3
  go_wp2_with (refine st_bytes rfl _ _ rfl _ _ rfl rfl _ (heap_alloc_new v4 _) rfl ?_; intro v5 g5 o5)
  have hs4 : w.heap.size < v4.heap.size := heap_lt ga4
  have ga5 := (o5.block _ (by omega)).trans ((Below.heap_alloc v4 _ _ hs4).trans ga4)
  have hB5 : Below w.heap.size w v5 := Below.trans (hB4.alloc (by omega) _) (Only.below (b := v4.heap.size) (B := w.heap.size) o5 (by omega))
  clear o5 ga4 hB4
  generalize v4.heap.size = bd at *
  have hd := mod_lt_P (a * b)
  have ND : N256 ((a * b) % P255) := N256.mod _
  have ED := Hid.mk (Int.emod_eq_of_lt hd.1 hd.2)
  have LD := Hid.mk (top_small hd.1 hd.2)
  have EA := Hid.mk (Int.emod_emod a P255)
  clear hd
  generalize (a * b) % P255 = d at *
  refine wp_region_steps (fun v => v.heap[w.heap.size]? = some (.cells (BA a) 24 (0, 0)) ∧ v.heap[bd]? = some (.cells (BA d) 24 (0, 0)) ∧ Below w.heap.size w v) (fun v v' => Below v.heap.size v v') (known [(none, .agg (BA d)), (none, .agg (BA d)), (none, .agg (BA d)), (none, .bool true), (none, .bool true), (none, .pointer (some ⟨bd, 31, none⟩)), (none, .int .u8 (byt d 31)), (none, .bool true), (none, .bool true), (none, .bool true), (none, .agg (BA a)), (none, .agg (BA a)), (none, .agg (BA (a % P255))), (none, .bool true), (none, .bool true), (none, .bool true), (none, .agg (BA a)), (some [a], undef), (none, .agg (BA (a % P255))), (none, .agg (BA a)), (none, .agg (BA (a % P255))), (none, .bool true), (none, .bool true), (none, .bool true), (none, .agg (BA a)), (some [a], undef), (none, .agg (BA (a % P255))), (none, .agg (BA a)), (none, .agg (BA (a % P255))), (none, .bool true), (none, .bool true), (none, .bool true)]) [79, 80, 81, 82, 83, 84, 85, 86, 87, 88, 89, 90, 91, 92, 93, 94, 95, 96, 97, 98, 99, 100, 101, 102, 103, 104, 105, 106, 107, 108, 109, 10]
    [(3, .pointer (some ⟨w.heap.size, 0, none⟩)), (9, .pointer (some ⟨bd, 0, none⟩))] [[], [0], [], [1, 2], [3], [4], [4, 5], [4, 6], [4, 7], [8], [9], [9], [9, 11], [9, 10, 12], [9, 13], [14], [15], [15, 16], [15, 17], [15], [15, 19], [15, 18, 20], [15, 21], [22], [23], [23, 24], [23, 25], [23], [23, 27], [23, 26, 28], [23, 29], [30]] rfl (by kernel_rfl) ⟨rfl, rfl, trivial⟩ ⟨ga5, g5, Below.drew hB5⟩ (fun v v' h hb => ⟨bheap hb h.1 (heap_lt h.1), bheap hb h.2.1 (heap_lt h.2.1), Below.trans h.2.2 (hb.mono h.2.2.size)⟩) (known_keeps _)
    ⟨
      -- 0
      (fun Q a1 w hS fr kn => ⟨trivial, fun K hK => wp_value (look_bytes rfl _ _ fr.2.1 (BA_size _) hS.2.1) (hK _ _ rfl (Below.refl _ _))⟩),
      -- 1
      (fun Q a1 w hS fr kn => ⟨trivial, fun K hK => call1 enterCanon _ _ rfl _ _ kn.1 (canon_any d w ND.1 ND.2) (fun w' hb => hK _ _ (by rw [ED.out]; rfl) hb)⟩),
      -- 2
      (fun Q a1 w hS fr kn => ⟨trivial, fun K hK => wp_value (look_bytes rfl _ _ fr.2.1 (BA_size _) hS.2.1) (hK _ _ rfl (Below.refl _ _))⟩),
      -- 3
      (fun Q a1 w hS fr kn => ⟨trivial, fun K hK => wp_value (eql_same _ _ _ rfl _ kn.1 kn.2.1) (hK _ _ rfl (Below.refl _ _))⟩),
      -- 4
      (fun Q a1 w hS fr kn => ⟨trivial, fun K hK => wp_value (exec_move _ rfl) (hK _ _ kn.1 (Below.refl _ _))⟩),
      -- 5
      (fun Q a1 w hS fr kn => ⟨kn.1, fun K hK => wp_value (exec_at31 rfl bd fr.2.1) (hK _ _ rfl (Below.refl _ _))⟩),
      -- 6
      (fun Q a1 w hS fr kn => ⟨kn.1, fun K hK => wp_value (exec_ld5 _ rfl bd 31 kn.2.1 (.int .u8 (byt d 31)) ((cell_of_row w bd 31 _ _ _ hS.2.1).trans (BA_get d 31 (by omega)))) (hK _ _ rfl (Below.refl _ _))⟩),
      -- 7
      (fun Q a1 w hS fr kn => ⟨kn.1, fun K hK => wp_value (exec_lss128 _ rfl (byt d 31) kn.2.1 LD.out) (hK _ _ rfl (Below.refl _ _))⟩),
      -- 8
      (fun Q a1 w hS fr kn => ⟨trivial, fun K hK => wp_value (exec_pick _ _ _ rfl kn.1) (hK _ _ kn.2.1 (Below.refl _ _))⟩),
      -- 9
      (fun Q a1 w hS fr kn => ⟨trivial, fun K hK => wp_value (exec_move _ rfl) (hK _ _ kn.1 (Below.refl _ _))⟩),
      -- 10
      (fun Q a1 w hS fr kn => ⟨kn.1, fun K hK => wp_value (look_bytes rfl _ _ fr.1 (BA_size _) hS.1) (hK _ _ rfl (Below.refl _ _))⟩),
      -- 11
      (fun Q a1 w hS fr kn => ⟨kn.1, fun K hK => wp_value (look_bytes rfl _ _ fr.1 (BA_size _) hS.1) (hK _ _ rfl (Below.refl _ _))⟩),
      -- 12
      (fun Q a1 w hS fr kn => ⟨kn.1, fun K hK => call1 enterCanon _ _ rfl _ _ kn.2.1 (canon_any a w ha.1 ha.2) (fun w' hb => hK _ _ rfl hb)⟩),
      -- 13
      (fun Q a1 w hS fr kn => ⟨kn.1, fun K hK => call2 enterSame _ _ _ rfl _ _ _ kn.2.1 kn.2.2.1 (same_any a (a % P255) w ha (N256.mod _)) (fun w' hb => hK _ _ (by rw [EA.out, beq_self_eq_true]; rfl) hb)⟩),
      -- 14
      (fun Q a1 w hS fr kn => ⟨trivial, fun K hK => wp_value (exec_pick _ _ _ rfl kn.1) (hK _ _ kn.2.1 (Below.refl _ _))⟩),
      -- 15
      (fun Q a1 w hS fr kn => ⟨trivial, fun K hK => wp_value (exec_move _ rfl) (hK _ _ kn.1 (Below.refl _ _))⟩),
      -- 16
      (fun Q a1 w hS fr kn => ⟨kn.1, fun K hK => wp_value (look_bytes rfl _ _ fr.1 (BA_size _) hS.1) (hK _ _ rfl (Below.refl _ _))⟩),
      -- 17
      (fun Q a1 w hS fr kn => ⟨kn.1, fun K hK => act_bs1 _ rfl _ kn.2.1 (fun v hr hs hb => hK _ _ ⟨_, rfl, hr, hs⟩ hb)⟩),
      -- 18
      (fun Q a1 w hS fr kn => ⟨kn.1, fun K hK => by
        obtain ⟨bk, ek, hr, hs⟩ := kn.2.1
        exact call1 enterAdd _ _ rfl _ _ ek (add1 _ bk w ha hr hs) (fun w' hb => hK _ _ rfl hb)⟩),
      -- 19
      (fun Q a1 w hS fr kn => ⟨kn.1, fun K hK => wp_value (look_bytes rfl _ _ fr.1 (BA_size _) hS.1) (hK _ _ rfl (Below.refl _ _))⟩),
      -- 20
      (fun Q a1 w hS fr kn => ⟨kn.1, fun K hK => call1 enterCanon _ _ rfl _ _ kn.2.1 (canon_any a w ha.1 ha.2) (fun w' hb => hK _ _ rfl hb)⟩),
      -- 21
      (fun Q a1 w hS fr kn => ⟨kn.1, fun K hK => wp_value (eql_same _ _ _ rfl _ kn.2.1 kn.2.2.1) (hK _ _ rfl (Below.refl _ _))⟩),
      -- 22
      (fun Q a1 w hS fr kn => ⟨trivial, fun K hK => wp_value (exec_pick _ _ _ rfl kn.1) (hK _ _ kn.2.1 (Below.refl _ _))⟩),
      -- 23
      (fun Q a1 w hS fr kn => ⟨trivial, fun K hK => wp_value (exec_move _ rfl) (hK _ _ kn.1 (Below.refl _ _))⟩),
      -- 24
      (fun Q a1 w hS fr kn => ⟨kn.1, fun K hK => wp_value (look_bytes rfl _ _ fr.1 (BA_size _) hS.1) (hK _ _ rfl (Below.refl _ _))⟩),
      -- 25
      (fun Q a1 w hS fr kn => ⟨kn.1, fun K hK => act_bs1 _ rfl _ kn.2.1 (fun v hr hs hb => hK _ _ ⟨_, rfl, hr, hs⟩ hb)⟩),
      -- 26
      (fun Q a1 w hS fr kn => ⟨kn.1, fun K hK => by
        obtain ⟨bk, ek, hr, hs⟩ := kn.2.1
        exact call1 enterMul _ _ rfl _ _ ek (mul1 _ bk w ha hr hs) (fun w' hb => hK _ _ rfl hb)⟩),
      -- 27
      (fun Q a1 w hS fr kn => ⟨kn.1, fun K hK => wp_value (look_bytes rfl _ _ fr.1 (BA_size _) hS.1) (hK _ _ rfl (Below.refl _ _))⟩),
      -- 28
      (fun Q a1 w hS fr kn => ⟨kn.1, fun K hK => call1 enterCanon _ _ rfl _ _ kn.2.1 (canon_any a w ha.1 ha.2) (fun w' hb => hK _ _ rfl hb)⟩),
      -- 29
      (fun Q a1 w hS fr kn => ⟨kn.1, fun K hK => wp_value (eql_same _ _ _ rfl _ kn.2.1 kn.2.2.1) (hK _ _ rfl (Below.refl _ _))⟩),
      -- 30
      (fun Q a1 w hS fr kn => ⟨trivial, fun K hK => wp_value (exec_pick _ _ _ rfl kn.1) (hK _ _ kn.2.1 (Below.refl _ _))⟩),
      -- 31
      (fun Q a1 w hS fr kn => ⟨trivial, fun K hK => wp_value (exec_assign _ rfl) (hK _ _ kn.1 (Below.refl _ _))⟩),
      trivial⟩ ?_

  intro vs3 v6 hS6 hk6
  have e10 : vs3 10 = .bool true := hk6 31 (by decide)
  simp only [putAll, Act.put, List.setIfInBounds_toArray, List.set_cons_zero, List.set_cons_succ, e10]
  clear hk6 e10
  go_wp2_with fail
  refine (awake_any _ (primeAt_below HP.out hS6.2.2 hp0)).mono ?_
  rintro r v7 ⟨rfl, hb7⟩
  go_wp2
  go_ret
  exact ⟨rfl, Below.trans hS6.2.2 (hb7.mono hS6.2.2.size)⟩
end Go.Proofs.YtgklkkjhoecdoaaDoor
