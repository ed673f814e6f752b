/-
  Own text. The walk of Tag of the document's answer for poly, its first loop: the digits of r.
-/
import Derived.Test.YtfbeclleeehaaaaP5
namespace Go.Proofs.Ytfbeclleeehaaaa
open Go.RowKit Go.Proofs
set_option maxHeartbeats 8000000 in
set_option maxRecDepth 100000 in
theorem rTag_run (key : Nat → Int) (s : ByteArray) (w : World) (hk : Byts 32 key) (hs : s.size ≤ 140737488355328) :
    Calls Try.prog 9 #[.agg (WA .u8 32 key), .string s] w fun e w' => e = .returned (.agg (WA .u8 16 (digN (markN key (txt s) s.size)))) ∧ Below w.heap.size w w' := by
  have g0 : ArrAt ((w.alloc (.cells (WA .u8 32 key) 22)).alloc (.cells (WA .u8 16 fun _ => 0) 23)) w.heap.size .u8 22 32 key := heap_alloc2_old w _ _
  have g1 : ArrAt ((w.alloc (.cells (WA .u8 32 key) 22)).alloc (.cells (WA .u8 16 fun _ => 0) 23)) (w.heap.size + 1) .u8 23 16 (fun _ => 0) := heap_alloc2_new w _ _
  have hB : Below w.heap.size w ((w.alloc (.cells (WA .u8 32 key) 22)).alloc (.cells (WA .u8 16 fun _ => 0) 23)) := ((Below.refl _ w).alloc (by simp) _).alloc (by simp) _
  go_enter Try.func9, Try.ntmps9
  go_wp2_with (refine mk_step (n := 16) (mk16 _) ?_; intro v0 g5 hb0 hz0; refine Hid.out ?_)
  replace g0 := g0.kept hb0
  replace g1 := g1.kept hb0
  replace hB := hB.trans (hb0.mono hB.size)
  replace g5 : ArrAt v0 (w.heap.size + 1 + 1) .i64 3 16 (fun _ => 0) := by simpa using g5
  clear hz0
  clear hb0
  refine Hid.mk ?_
  go_wp2_with fail
  go_loopg [6] 16 (fun gm iv v => ∃ i : Nat, Hid (gm + i = 16) ∧ iv = .int .i64 (i : Int) ∧ ArrAt v w.heap.size .u8 22 32 key ∧ ArrAt v (w.heap.size + 1) .u8 23 16 (fun _ => 0) ∧ ArrAt v (w.heap.size + 1 + 1) .i64 3 16 (rpart key i) ∧ Below w.heap.size w v)
  case atStart => exact ⟨0, Hid.mk rfl, rfl, g0, g1, g5.congr (fun i _ => by unfold rpart; rw [if_neg (by omega)]), hB⟩
  case round =>
    clear g0 g1 g5 hB
    obtain ⟨i, HI, rfl, g0, g1, g5, hB⟩ := hrel
    have hi16 : i ≤ 16 := by have := HI.out; omega
    by_cases hil : i < 16
    · have ck := g0.cell i (by omega)
      have cr := g5.cell i hil
      have fr := g5.free i
      have hki := hk i (by omega)
      have hmo : (i : Int).tmod 4 = ((i % 4 : Nat) : Int) := by rw [Int.tmod_eq_emod_of_nonneg (by omega)]; omega
      by_cases h3 : i % 4 = 3
      · have hm3 : ((i % 4 : Nat) : Int) = 3 := by omega
        have hr : (key i).tmod 16 = key i % 16 := Int.tmod_eq_emod_of_nonneg hki.1
        have HV : Hid (key i % 16 = rdig key i) := Hid.mk (by unfold rdig; rw [if_pos h3])
        have hi0 : (0 : Int) < (i : Int) := by omega
        rw [hm3] at hmo
        go_wp2_with fail
        go_roundg (16 - (i + 1))
        case rel => exact ⟨i + 1, Hid.mk (by omega), by go_num, (g0.other _ (by omega)).other _ (by omega), (g1.other _ (by omega)).other _ (by omega), by rw [← rpart_step key i _ HV.out, ← upd_upd _ i (key i)]; exact (g5.set i (key i) hil).set i _ hil, Below.setCell (Below.setCell hB (by simp; omega) _) (by simp; omega) _⟩
        case measure => have := HI.out; omega
      · by_cases h0 : 0 < i ∧ i % 4 = 0
        · have hm0 : ((i % 4 : Nat) : Int) = 0 := by omega
          have hr : (key i).tdiv 4 = key i / 4 := Int.tdiv_eq_ediv_of_nonneg hki.1
          have HV : Hid (key i / 4 * 4 = rdig key i) := Hid.mk (by unfold rdig; rw [if_neg h3, if_pos h0])
          have hi0 : (0 : Int) < (i : Int) := by omega
          rw [hm0] at hmo
          go_wp2_with fail
          go_roundg (16 - (i + 1))
          case rel => exact ⟨i + 1, Hid.mk (by omega), by go_num, (g0.other _ (by omega)).other _ (by omega), (g1.other _ (by omega)).other _ (by omega), by rw [← rpart_step key i _ HV.out, ← upd_upd _ i (key i)]; exact (g5.set i (key i) hil).set i _ hil, Below.setCell (Below.setCell hB (by simp; omega) _) (by simp; omega) _⟩
          case measure => have := HI.out; omega
        · have HV : Hid (key i = rdig key i) := Hid.mk (by unfold rdig; rw [if_neg h3, if_neg h0])
          by_cases hz : i = 0
          · subst hz
            go_wp2_with fail
            go_roundg (16 - (0 + 1))
            case rel => exact ⟨0 + 1, Hid.mk (by omega), by go_num, g0.other _ (by omega), g1.other _ (by omega), by rw [← rpart_step key 0 _ HV.out]; exact g5.set 0 _ hil, Below.setCell hB (by simp; omega) _⟩
            case measure => have := HI.out; omega
          · obtain ⟨q, hq⟩ : ∃ q : Nat, i % 4 = q := ⟨_, rfl⟩
            rw [hq] at hmo
            have hq3 : ¬ ((q : Int) = 3) := by omega
            have hq0 : ¬ ((q : Int) = 0) := by omega
            have hqb3 : ((q : Int) == 3) = false := by simpa using hq3
            have hqb0 : ((q : Int) == 0) = false := by simpa using hq0
            have hi0 : (0 : Int) < (i : Int) := by omega
            go_wp2_with fail
            go_roundg (16 - (i + 1))
            case rel => exact ⟨i + 1, Hid.mk (by omega), by go_num, g0.other _ (by omega), g1.other _ (by omega), by rw [← rpart_step key i _ HV.out]; exact g5.set i _ hil, Below.setCell hB (by simp; omega) _⟩
            case measure => have := HI.out; omega
    · have hi2 : i = 16 := by omega
      subst hi2
      clear hil hi16 HI
      replace g5 := g5.congr (s' := rdig key) (fun i hi => by unfold rpart; rw [if_pos hi])
      go_wp2_with (refine mk_step (n := 18) (mk18 _) ?_; intro v1 g7 hb1 hz1; refine Hid.out ?_)
      have hz7 := g5.lt
      replace g0 := g0.kept hb1
      replace g1 := g1.kept hb1
      replace g5 := g5.kept hb1
      replace hB := hB.trans (hb1.mono hB.size)
      have r7 := g7.row
      clear hb1 hz1 g7
      generalize wr.heap.size = b7 at *
      refine Hid.mk ?_
      go_wp2_with fail
      obtain ⟨NB, HNB⟩ : ∃ N : Nat, Hid ((s.size + 15) / 16 = N) := ⟨_, Hid.mk rfl⟩
      generalize wr = wp at *
      go_loopg [7, 8] NB (fun gm hv av v => ∃ (q g c m : Nat) (e : Nat → Int), Hid (gm + q = NB) ∧ hv = .slice (some ⟨g, 0, none⟩) m c ∧ av = .int .i64 (16 * (q : Int)) ∧ (w.heap.size + 1 + 1) < g ∧ RowAt v g .i64 3 m e ∧ 18 ≤ m ∧ m ≤ 46 ∧ Hid (Dg 256 m e) ∧ Hid (dval e m = accN (rN key) (txt s) s.size q) ∧ ArrAt v w.heap.size .u8 22 32 key ∧ ArrAt v (w.heap.size + 1) .u8 23 16 (fun _ => 0) ∧ ArrAt v (w.heap.size + 1 + 1) .i64 3 16 (rdig key) ∧ Below w.heap.size w v)
      case atStart => exact ⟨0, b7, 18, 18, fun _ => 0, Hid.mk (by omega), rfl, rfl, hz7, r7, by omega, by omega, Hid.mk (fun i _ => by show 0 ≤ (0 : Int) ∧ (0 : Int) < 256; omega), Hid.mk (by show dval (fun _ => 0) 18 = 0; decide), g0, g1, g5, hB⟩
      case round =>
        clear g0 g1 g5 hB r7
        obtain ⟨q, g, c, m, e, HQ, rfl, rfl, hg, hr, hm1, hm2, HD, HA, g0, g1, g5, hB⟩ := hrel
        have hqN : q ≤ NB := by have := HQ.out; omega
        by_cases hqs : 16 * q < s.size
        · have hqN2 : q < NB := by have := HNB.out; omega
          obtain ⟨n, HN⟩ : ∃ n : Nat, Hid (min 16 (s.size - 16 * q) = n) := ⟨_, Hid.mk rfl⟩
          have hn16 : n ≤ 16 := by have := HN.out; omega
          have hns : 16 * q + n ≤ s.size := by have := HN.out; omega
          have hmin : (if (s.size : Int) - 16 * (q : Int) < 16 then (s.size : Int) - 16 * (q : Int) else 16) = (n : Int) := by have := HN.out; split <;> omega
          have hqi : 16 * (q : Int) < (s.size : Int) := by omega
          generalize wr = wq at *
          generalize gk = gq at *
          have hdq : decide (16 * (q : Int) < (s.size : Int)) = true := decide_eq_true hqi
          go_wp2_with fail
          go_loopg [10] n (fun gm jv v => ∃ j : Nat, Hid (gm + j = n) ∧ jv = .int .i64 (j : Int) ∧ RowAt v g .i64 3 m (addd e (fun i => txt s (16 * q + i)) j) ∧ ArrAt v w.heap.size .u8 22 32 key ∧ ArrAt v (w.heap.size + 1) .u8 23 16 (fun _ => 0) ∧ ArrAt v (w.heap.size + 1 + 1) .i64 3 16 (rdig key) ∧ Below w.heap.size w v)
          case atStart => exact ⟨0, Hid.mk (by omega), rfl, hr.mono (Nat.le_refl _) (fun i _ => by unfold addd; rw [if_neg (by omega)]), g0, g1, g5, hB⟩
          case round =>
            clear hr g0 g1 g5 hB
            obtain ⟨j, HJ, rfl, hr, g0, g1, g5, hB⟩ := hrel
            have hjn : j ≤ n := by have := HJ.out; omega
            by_cases hjl : j < n
            · have hjm : j < m := by omega
              have hjs : 16 * q + j < s.size := by omega
              have HE : Hid (addd e (fun i => txt s (16 * q + i)) j j = e j) := Hid.mk (by unfold addd; rw [if_neg (by omega)])
              have hej := HD.out j hjm
              have htb := txt_b s (16 * q + j)
              go_wp2_with fail
              refine wp_region3 (Below w.heap.size w) wr.heap.size
                [(g, ⟨rowOb .i64 3 m (addd e (fun i => txt s (16 * q + i)) j), [(14, rowOb .i64 3 m (addd e (fun i => txt s (16 * q + i)) (j + 1)))]⟩), (w.heap.size, fixd (WA .u8 32 key) 22), ((w.heap.size + 1), fixd (WA .u8 16 (fun _ => 0)) 23), ((w.heap.size + 1 + 1), fixd (WA .i64 16 (rdig key)) 3)]
                [kv (.slice (some ⟨g, 0, none⟩) m c), kv (.int .i64 (j : Int)), kv (.slice (some ⟨g, 0, none⟩) m c), kv (.int .i64 (j : Int)), kv (.pointer (some ⟨g, 0 + j, none⟩)), kv (.int .i64 (e j)), kv (.string s), kv (.int .i64 (16 * (q : Int))), kv (.int .i64 (j : Int)), kv (.int .i64 ((16 * q + j : Nat) : Int)), kv (.int .u8 (txt s (16 * q + j))), kv (.int .i64 (txt s (16 * q + j))), kv (.int .i64 (e j + txt s (16 * q + j))), kv (.pointer (some ⟨g, 0 + j, none⟩)), .val fun _ => True]
                [.none, .none, .none, .none, .none, .none, .none, .none, .none, .none, .none, .none, .none, .none, .base 0 1]
                [some 73, some 74, some 75, some 76, some 77, some 78, some 79, some 80, some 81, some 82, some 83, some 84, some 85, some 86, none]
                [(1, .string s), (7, .slice (some ⟨g, 0, none⟩) m c), (8, .int .i64 (16 * (q : Int))), (10, .int .i64 (j : Int))]
                [[], [], [], [], [.slot 2, .slot 3], [.slot 4, .base 0 0], [], [], [], [.slot 7, .slot 8], [.slot 6, .slot 9], [.slot 10], [.slot 5, .slot 11], [.slot 0, .slot 1], [.slot 13, .base 0 0, .slot 12]]
                [.base 0 1, .base 1 0, .base 2 0, .base 3 0] [73, 74, 75, 76, 77, 78, 79, 80, 81, 82, 83, 84, 85, 86]
                rfl (by kernel_rfl) ⟨rfl, rfl, rfl, rfl, trivial⟩ (Below.drew hB) (Nat.le_refl _) ⟨⟨hr.lt, hr⟩, ⟨g0.lt, obIn g0⟩, ⟨g1.lt, obIn g1⟩, ⟨g5.lt, obIn g5⟩, trivial⟩ ⟨⟨(show (g : Nat) ≠ w.heap.size from by omega), (show (g : Nat) ≠ (w.heap.size + 1) from by omega), (show (g : Nat) ≠ (w.heap.size + 1 + 1) from by omega), trivial⟩, ⟨trivial, trivial, trivial⟩, ⟨trivial, trivial⟩, trivial, trivial⟩ (below_G hB.size ⟨by omega, by omega, by omega, by omega, trivial⟩)
                ⟨
                  -- 0
                  (fun Q aq ww own hS hBg fr kn => .inl ⟨trivial, fun K hK => wp_value (exec_move rfl fr.2.1) (hK _ _ ⟨Touch.refl _ _, rfl⟩)⟩),
                  -- 1
                  (fun Q aq ww own hS hBg fr kn => .inl ⟨trivial, fun K hK => wp_value (exec_move rfl fr.2.2.2.1) (hK _ _ ⟨Touch.refl _ _, rfl⟩)⟩),
                  -- 2
                  (fun Q aq ww own hS hBg fr kn => .inl ⟨trivial, fun K hK => wp_value (exec_move rfl fr.2.1) (hK _ _ ⟨Touch.refl _ _, rfl⟩)⟩),
                  -- 3
                  (fun Q aq ww own hS hBg fr kn => .inl ⟨trivial, fun K hK => wp_value (exec_move rfl fr.2.2.2.1) (hK _ _ ⟨Touch.refl _ _, rfl⟩)⟩),
                  -- 4
                  (fun Q aq ww own hS hBg fr kn => .inl ⟨trivial, fun K hK => wp_value (exec_idx rfl Try.underlying45 size_int kn.1 kn.2.1 hjm) (hK _ _ ⟨Touch.refl _ _, rfl⟩)⟩),
                  -- 5
                  (fun Q aq ww own hS hBg fr kn => .inl ⟨trivial, fun K hK => wp_value (exec_ld rfl kn.1 (load_int (cell0 kn.2.1 hjm))) (hK _ _ ⟨Touch.refl _ _, congrArg (Value.int .i64) HE.out⟩)⟩),
                  -- 6
                  (fun Q aq ww own hS hBg fr kn => .inl ⟨trivial, fun K hK => wp_value (exec_move rfl fr.1) (hK _ _ ⟨Touch.refl _ _, rfl⟩)⟩),
                  -- 7
                  (fun Q aq ww own hS hBg fr kn => .inl ⟨trivial, fun K hK => wp_value (exec_move rfl fr.2.2.1) (hK _ _ ⟨Touch.refl _ _, rfl⟩)⟩),
                  -- 8
                  (fun Q aq ww own hS hBg fr kn => .inl ⟨trivial, fun K hK => wp_value (exec_move rfl fr.2.2.2.1) (hK _ _ ⟨Touch.refl _ _, rfl⟩)⟩),
                  -- 9
                  (fun Q aq ww own hS hBg fr kn => .inl ⟨trivial, fun K hK => wp_value (exec_add rfl kn.1 kn.2.1 (by omega) (by omega)) (hK _ _ ⟨Touch.refl _ _, rfl⟩)⟩),
                  -- 10
                  (fun Q aq ww own hS hBg fr kn => .inl ⟨trivial, fun K hK => wp_value (exec_ixs rfl kn.1 kn.2.1 hjs) (hK _ _ ⟨Touch.refl _ _, rfl⟩)⟩),
                  -- 11
                  (fun Q aq ww own hS hBg fr kn => .inl ⟨trivial, fun K hK => wp_value (exec_conv rfl kn.1 (conv_b htb _)) (hK _ _ ⟨Touch.refl _ _, rfl⟩)⟩),
                  -- 12
                  (fun Q aq ww own hS hBg fr kn => .inl ⟨trivial, fun K hK => wp_value (exec_add rfl kn.1 kn.2.1 (by omega) (by omega)) (hK _ _ ⟨Touch.refl _ _, rfl⟩)⟩),
                  -- 13
                  (fun Q aq ww own hS hBg fr kn => .inl ⟨trivial, fun K hK => wp_value (exec_idx rfl Try.underlying45 size_int kn.1 kn.2.1 hjm) (hK _ _ ⟨Touch.refl _ _, rfl⟩)⟩),
                  -- 14
                  (fun Q aq ww own hS hBg fr kn => .inl ⟨trivial, fun K hK => act_cell rfl (ptr0 kn.1) kn.2.2.1 kn.2.1 hjm (fun w2 hg ho => hK _ _ ⟨⟨touch_only ho, (show rowOb .i64 3 m (addd e (fun i => txt s (16 * q + i)) (j + 1)) = rowOb .i64 3 m (upd (addd e (fun i => txt s (16 * q + i)) j) j (e j + txt s (16 * q + j))) from by rw [← addd_step, HE.out]) ▸ hg⟩, trivial⟩)⟩),
                  trivial⟩ ?_
              intro vs6 own6 v6 hB6 hs6 kn inj
              clear inj hs6
              have R6 : RowAt v6 g .i64 3 m (addd e (fun i => txt s (16 * q + i)) (j + 1)) := kn.1
              have G0 : ArrAt v6 w.heap.size .u8 22 32 key := obAt kn.2.1
              have G1 : ArrAt v6 (w.heap.size + 1) .u8 23 16 (fun _ => 0) := obAt kn.2.2.1
              have G5 : ArrAt v6 (w.heap.size + 1 + 1) .i64 3 16 (rdig key) := obAt kn.2.2.2.1
              clear kn
              simp only [putAll, Act.put, List.setIfInBounds_toArray, List.set_cons_zero, List.set_cons_succ]
              go_wp2_with fail
              go_roundg (n - (j + 1))
              case rel => exact ⟨j + 1, Hid.mk (by omega), by go_num, R6, G0, G1, G5, hB6⟩
              case measure => have := HJ.out; omega
            · have hj2 : j = n := by omega
              subst hj2
              clear hjl hjn HJ
              have hjm : j < m := by omega
              have HE : Hid (addd e (fun i => txt s (16 * q + i)) j j = e j) := Hid.mk (by unfold addd; rw [if_neg (by omega)])
              obtain ⟨h, HH⟩ : ∃ h, Hid (upd (addd e (fun i => txt s (16 * q + i)) j) j (e j + 1) = h) := ⟨_, Hid.mk rfl⟩
              have hej := HD.out j hjm
              have HHD : Hid (Dg 600 m h) := Hid.mk (fun i hi => by
                rw [← HH.out]
                have h1 := HD.out i hi
                have h2 := txt_b s (16 * q + i)
                unfold upd
                split
                · omega
                · unfold addd
                  split
                  · show 0 ≤ e i + txt s (16 * q + i) ∧ e i + txt s (16 * q + i) < 600
                    omega
                  · omega)
              have HHV : Hid (dval h 18 = accN (rN key) (txt s) s.size q + blkN (txt s) (16 * q) j) := Hid.mk (by
                have hhi := dval_high (e := e) (by omega) HD.out (by rw [HA.out]; have := accN_b (rN key) (txt s) s.size q; unfold P130 at this; unfold W130; omega)
                have h1 : dval h 18 = dval h m := (dval_tail (by omega) (fun i h1 h2 => by
                  rw [← HH.out]
                  unfold upd
                  rw [if_neg (by omega)]
                  unfold addd
                  rw [if_neg (by omega)]
                  exact hhi.2 i (by omega) h2)).symm
                rw [h1, ← HH.out, show e j + 1 = addd e (fun i => txt s (16 * q + i)) j j + 1 by rw [HE.out], dval_add hjm, dval_addd (by omega), HA.out]
                unfold blkN
                omega)
              have cj := hr.cell j hjm
              have fj := hr.free j hjm
              rw [HE.out] at cj
              have rh := hr.set j (e j + 1)
              rw [HH.out] at rh
              have g0h := g0.other (g := g) (i := j) (.int .i64 (e j + 1)) (by omega)
              have g1h := g1.other (g := g) (i := j) (.int .i64 (e j + 1)) (by omega)
              have g5h := g5.other (g := g) (i := j) (.int .i64 (e j + 1)) (by omega)
              have hBh := Below.setCell hB (p := ⟨g, j, none⟩) (by simp; omega) (.int .i64 (e j + 1))
              go_wp2_with (refine mk_step (n := 40) (mk40 _) ?_; intro v3 g11 hb3 hz3; refine Hid.out ?_)
              have hg11 : g < (wr.setCell ⟨g, j, none⟩ (.int .i64 (e j + 1))).heap.size := rh.lt
              replace rh := rh.below hb3 hg11
              replace g0h := g0h.kept hb3
              replace g1h := g1h.kept hb3
              replace g5h := g5h.kept hb3
              replace hBh := hBh.trans (hb3.mono hBh.size)
              clear hr g0 g1 g5 hB hb3 hz3 cj fj
              generalize (wr.setCell ⟨g, j, none⟩ (.int .i64 (e j + 1))).heap.size = b11 at *
              refine Hid.mk ?_
              go_wp2_with fail
              have HRD := Hid.mk (rdig_b hk)
              generalize wr = wz at *
              generalize gk = gz at *
              go_loopg [12] 18 (fun gm iv v => ∃ (i : Nat) (z : Nat → Int), Hid (gm + i = 18) ∧ iv = .int .i64 (i : Int) ∧ ArrAt v b11 .i64 3 40 z ∧ Hid (∀ x, x < 40 → 0 ≤ z x ∧ z x ≤ (16 * i : Nat) * 200000) ∧ Hid (dval z 40 = dval h i * rN key) ∧ RowAt v g .i64 3 m h ∧ ArrAt v w.heap.size .u8 22 32 key ∧ ArrAt v (w.heap.size + 1) .u8 23 16 (fun _ => 0) ∧ ArrAt v (w.heap.size + 1 + 1) .i64 3 16 (rdig key) ∧ Below w.heap.size w v)
              case atStart => exact ⟨0, fun _ => 0, Hid.mk rfl, rfl, g11, Hid.mk (fun x _ => by show 0 ≤ (0 : Int) ∧ (0 : Int) ≤ _; omega), Hid.mk (by show dval (fun _ => 0) 40 = 0 * rN key; rw [Int.zero_mul]; decide), rh, g0h, g1h, g5h, hBh⟩
              case round =>
                clear g11 rh g0h g1h g5h hBh
                obtain ⟨i, z, HI, rfl, g11, HZB, HZV, rh, g0h, g1h, g5h, hBh⟩ := hrel
                have hi18 : i ≤ 18 := by have := HI.out; omega
                by_cases hil : i < 18
                · have hdi : decide ((i : Int) < 18) = true := decide_eq_true (by omega)
                  go_wp2_with fail
                  generalize wr = wy at *
                  generalize gk = gy at *
                  go_loopg [13] 16 (fun gm kv v => ∃ (k : Nat) (z : Nat → Int), Hid (gm + k = 16) ∧ kv = .int .i64 (k : Int) ∧ ArrAt v b11 .i64 3 40 z ∧ Hid (∀ x, x < 40 → 0 ≤ z x ∧ z x ≤ (16 * i + k : Nat) * 200000) ∧ Hid (dval z 40 = dval h i * rN key + 256 ^ i * (h i * dval (rdig key) k)) ∧ RowAt v g .i64 3 m h ∧ ArrAt v w.heap.size .u8 22 32 key ∧ ArrAt v (w.heap.size + 1) .u8 23 16 (fun _ => 0) ∧ ArrAt v (w.heap.size + 1 + 1) .i64 3 16 (rdig key) ∧ Below w.heap.size w v)
                  case atStart => exact ⟨0, z, Hid.mk rfl, rfl, g11, HZB, Hid.mk (by rw [HZV.out]; simp [dval]), rh, g0h, g1h, g5h, hBh⟩
                  case round =>
                    clear g11 rh g0h g1h g5h hBh HZB HZV
                    obtain ⟨k, z, HK, rfl, g11, HZB, HZV, rh, g0h, g1h, g5h, hBh⟩ := hrel
                    have hk16 : k ≤ 16 := by have := HK.out; omega
                    by_cases hkl : k < 16
                    · have cz := g11.cell (i + k) (by omega)
                      have fz := g11.free (i + k)
                      have ch := rh.cell i (by omega)
                      have cr := g5h.cell k hkl
                      have dh := HHD.out i (by omega)
                      have dr := HRD.out k hkl
                      have dz := HZB.out (i + k) (by omega)
                      have hpr : 0 ≤ h i * rdig key k ∧ h i * rdig key k ≤ 200000 := by
                        refine ⟨Int.mul_nonneg dh.1 dr.1, ?_⟩
                        have h1 : h i * rdig key k ≤ 600 * rdig key k := Int.mul_le_mul_of_nonneg_right (by omega) dr.1
                        omega
                      have HP2 := Hid.mk (prod_step z h (rdig key) (rN key) i k (by omega) HZV.out)
                      have HB2 : Hid (∀ x, x < 40 → 0 ≤ upd z (i + k) (z (i + k) + h i * rdig key k) x ∧ upd z (i + k) (z (i + k) + h i * rdig key k) x ≤ (16 * i + (k + 1) : Nat) * 200000) := Hid.mk (fun x hx => by
                        have h1 := HZB.out x hx
                        unfold upd
                        split
                        · omega
                        · omega)
                      have g112 := Hid.mk (g11.set (i + k) (z (i + k) + h i * rdig key k) (by omega))
                      obtain ⟨pr, hpr2⟩ : ∃ pr, h i * rdig key k = pr := ⟨_, rfl⟩
                      rw [hpr2] at HP2 HB2 g112 hpr
                      generalize hx1 : z (i + k) = x1 at *
                      generalize hx2 : h i = x2 at *
                      generalize hx3 : rdig key k = x3 at *
                      have hm40 : (i : Int) + (k : Int) < 40 := by omega
                      have him : (i : Int) < (m : Int) := by omega
                      go_wp2_with fail
                      go_region
                      go_wp2_with fail
                      go_roundg (16 - (k + 1))
                      case rel => exact ⟨k + 1, _, Hid.mk (by omega), by go_num, g112.out, HB2, HP2, rh.other _ (by omega), g0h.other _ (by omega), g1h.other _ (by omega), g5h.other _ (by omega), (Below.setCell hBh (p := ⟨b11, i + k, none⟩) (by simp; omega) _).drew⟩
                      case measure => have := HK.out; omega
                    · have hk2 : k = 16 := by omega
                      subst hk2
                      have HZ2 : Hid (dval z 40 = dval h (i + 1) * rN key) := Hid.mk (by rw [HZV.out]; exact prod_row h (rdig key) i)
                      have HB3 : Hid (∀ x, x < 40 → 0 ≤ z x ∧ z x ≤ (16 * (i + 1) : Nat) * 200000) := Hid.mk (fun x hx => by have := HZB.out x hx; omega)
                      clear HZB HZV HK hkl hk16
                      go_wp2_with fail
                      go_roundg (18 - (i + 1))
                      case rel => exact ⟨i + 1, z, Hid.mk (by omega), by go_num, g11, HB3, HZ2, rh, g0h, g1h, g5h, hBh⟩
                      case measure => have := HI.out; omega
                · have hi2 : i = 18 := by omega
                  subst hi2
                  have HV2 : Hid (dval z 40 % P130 = accN (rN key) (txt s) s.size (q + 1)) := Hid.mk (by
                    rw [HZV.out, HHV.out]
                    show _ = (accN (rN key) (txt s) s.size q + blkN (txt s) (16 * q) (min 16 (s.size - 16 * q))) * rN key % P130
                    rw [HN.out])
                  have hrest := fun w (hR : RowAt w b11 .i64 3 40 z) => rest_run z 40 b11 40 w hR (fun x hx => by have := HZB.out x hx; omega) (by decide)
                  clear HZB HZV HI hil hi18 HH HHD HHV HE hej HRD
                  go_wp2_with fail
                  refine (hrest _ g11.row).mono ?_
                  rintro r v5 ⟨g6, c6, m6, rfl, e6, hm61, hm62, hd6, hv6, ho6, hb6⟩
                  have hz6 : b11 < wr.heap.size := g11.lt
                  have hg6 := ho6.base
                  have r6 := ho6.row (by omega)
                  replace g0h := g0h.kept hb6
                  replace g1h := g1h.kept hb6
                  replace g5h := g5h.kept hb6
                  replace hBh := hBh.trans (hb6.mono hBh.size)
                  rw [HV2.out] at hv6
                  have HD6 := Hid.mk hd6
                  have HV6 := Hid.mk hv6
                  clear hrest HV2 hd6 hv6 ho6 hb6 g11 rh
                  go_wp2_with fail
                  go_roundg (NB - (q + 1))
                  case rel => exact ⟨q + 1, g6, c6, m6, e6, Hid.mk (by omega), rfl, by go_num, by omega, r6, hm61, hm62, HD6, HV6, g0h, g1h, g5h, hBh⟩
                  case measure => have := HQ.out; omega
        · have hqe : q = NB := by have := HNB.out; omega
          have hqi : ¬ (16 * (q : Int) < (s.size : Int)) := by omega
          have HM : Hid (∀ i, i < 16 → digN (accN (rN key) (txt s) s.size q + sN key) i = digN (markN key (txt s) s.size) i) := Hid.mk (fun i hi => by
            unfold markN
            rw [digN_mod _ i hi, HNB.out, hqe])
          generalize wr = wq at *
          generalize gk = gq at *
          have hdq : decide (16 * (q : Int) < (s.size : Int)) = false := decide_eq_false hqi
          go_wp2_with fail
          go_loopg [14] 16 (fun gm iv v => ∃ i : Nat, Hid (gm + i = 16) ∧ iv = .int .i64 (i : Int) ∧ RowAt v g .i64 3 m (addd e (fun i => key (16 + i)) i) ∧ ArrAt v w.heap.size .u8 22 32 key ∧ ArrAt v (w.heap.size + 1) .u8 23 16 (fun _ => 0) ∧ Below w.heap.size w v)
          case atStart => exact ⟨0, Hid.mk rfl, rfl, hr.mono (Nat.le_refl _) (fun i _ => by unfold addd; rw [if_neg (by omega)]), g0, g1, hB⟩
          case round =>
            clear hr g0 g1 g5 hB
            obtain ⟨i, HI, rfl, hr, g0, g1, hB⟩ := hrel
            have hi16 : i ≤ 16 := by have := HI.out; omega
            by_cases hil : i < 16
            · have ch := hr.cell i (by omega)
              have fh := hr.free i (by omega)
              have ck := g0.cell (16 + i) (by omega)
              have hki := hk (16 + i) (by omega)
              have hei := HD.out i (by omega)
              have HE : Hid (addd e (fun i => key (16 + i)) i i = e i) := Hid.mk (by unfold addd; rw [if_neg (by omega)])
              rw [HE.out] at ch
              have R2 : Hid (RowAt (wr.setCell ⟨g, i, none⟩ (.int .i64 (e i + key (16 + i)))) g .i64 3 m (addd e (fun i => key (16 + i)) (i + 1))) := Hid.mk (by
                have h1 := hr.set i (e i + key (16 + i))
                rw [← addd_step, HE.out]
                exact h1)
              have him : (i : Int) < (m : Int) := by omega
              have hi32 : (16 : Int) + (i : Int) < 32 := by omega
              generalize hx1 : e i = x1 at *
              generalize hx2 : key (16 + i) = x2 at *
              go_wp2_with fail
              go_region
              go_wp2_with fail
              go_roundg (16 - (i + 1))
              case rel => exact ⟨i + 1, Hid.mk (by omega), by go_num, R2.out, g0.other _ (by omega), g1.other _ (by omega), (Below.setCell hB (p := ⟨g, i, none⟩) (by simp; omega) _).drew⟩
              case measure => have := HI.out; omega
            · have hi2 : i = 16 := by omega
              subst hi2
              clear hil hi16 HI
              obtain ⟨t, HT⟩ : ∃ t, Hid (addd e (fun i => key (16 + i)) 16 = t) := ⟨_, Hid.mk rfl⟩
              rw [HT.out] at hr
              have hcar := fun w (hR : RowAt w g .i64 3 m t) => carried_run t m g c w hR (fun x hx => by
                rw [← HT.out]
                have h1 := HD.out x hx
                unfold addd
                split
                · have h2 := hk (16 + x) (by omega)
                  show 0 ≤ e x + key (16 + x) ∧ e x + key (16 + x) < 8796093022208
                  omega
                · omega) (by omega)
              have HTV : Hid (dval t m = accN (rN key) (txt s) s.size q + sN key) := Hid.mk (by rw [← HT.out, dval_addd (by omega), HA.out]; rfl)
              go_wp2_with fail
              refine (hcar _ hr).mono ?_
              rintro r v5 ⟨g6, c6, m6, e6, rfl, hC6, ho6, hb6⟩
              have hm6 := hC6.lo
              have HDG : Hid (∀ i, i < 16 → e6 i = digN (markN key (txt s) s.size) i) := Hid.mk (fun i hi => by
                rw [← HM.out i hi, ← HTV.out, ← hC6.num]
                exact dig_of hC6.dg i (by omega))
              have hdb := hC6.dg
              replace ho6 : DigS v5 wr.heap.size g6 c6 m6 e6 := ho6
              have r6 := ho6.row (by omega)
              have hz6 := g1.lt
              replace g1 := g1.kept hb6
              replace hB := hB.trans (hb6.mono hB.size)
              have hg6 := ho6.lt
              clear hcar hC6 ho6 hb6 hr g0 HTV HM
              have gn : ∀ o, o = Obj.cells (WA .u8 16 fun _ => 0) 23 (0, 0) → ArrAt (v5.alloc o) v5.heap.size .u8 23 16 (fun _ => 0) := fun o ho => by rw [ho]; exact heap_alloc_new v5 _
              have hz7 := g1.lt
              have hBS := hB.size
              go_wp2_with fail
              go_loopg [16] 16 (fun gm iv v => ∃ i : Nat, Hid (gm + i = 16) ∧ iv = .int .i64 (i : Int) ∧ ArrAt v v5.heap.size .u8 23 16 (fun j => if j < i then e6 j else 0) ∧ ArrAt v (w.heap.size + 1) .u8 23 16 (fun _ => 0) ∧ RowAt v g6 .i64 3 m6 e6 ∧ Below w.heap.size w v)
              case atStart => exact ⟨0, Hid.mk rfl, rfl, (gn _ rfl).congr (fun j _ => by rw [if_neg (by omega)]), g1.alloc _, r6.alloc _, hB.alloc (by omega) _⟩
              case round =>
                clear g1 r6 hB gn
                obtain ⟨i, HI, rfl, gO, g1, r6, hB⟩ := hrel
                have hi16 : i ≤ 16 := by have := HI.out; omega
                by_cases hil : i < 16
                · have ch := r6.cell i (by omega)
                  have co := gO.cell i hil
                  have fo := gO.free i
                  have hei := hdb i (by omega)
                  have R2 : Hid (ArrAt (wr.setCell ⟨v5.heap.size, i, none⟩ (.int .u8 (e6 i))) v5.heap.size .u8 23 16 (fun j => if j < i + 1 then e6 j else 0)) := Hid.mk ((gO.set i (e6 i) hil).congr (fun j hj => by
                    unfold upd
                    by_cases h1 : j = i
                    · subst h1; rw [if_pos rfl, if_pos (by omega)]
                    · rw [if_neg h1]
                      show (if j < i then e6 j else 0) = _
                      by_cases h2 : j < i
                      · rw [if_pos h2, if_pos (by omega)]
                      · rw [if_neg h2, if_neg (by omega)]))
                  have him : (i : Int) < (m6 : Int) := by omega
                  have hmd : e6 i % 256 = e6 i := by omega
                  generalize hx1 : e6 i = x1 at *
                  go_wp2_with fail
                  go_roundg (16 - (i + 1))
                  case rel => exact ⟨i + 1, Hid.mk (by omega), by go_num, R2.out, g1.other _ (by omega), r6.other _ (by omega), Below.setCell hB (p := ⟨v5.heap.size, i, none⟩) (by simp; omega) _⟩
                  case measure => have := HI.out; omega
                · have hi2 : i = 16 := by omega
                  subst hi2
                  replace gO := gO.congr (s' := digN (markN key (txt s) s.size)) (fun j hj => by rw [if_pos hj]; exact HDG.out j hj)
                  clear HI hil hi16 r6
                  go_wp2_with (first | (refine ld_arr isArr16 gO (by rfl) ?_) | (refine st_arr isArr16 g1 (by rfl) (by rfl) ?_; intro v8 g8 o8))
                  exact bodyPost_ret (v := .agg (WA .u8 16 (digN (markN key (txt s) s.size)))) (res_arr rfl isArr16 g8 rfl) rfl ⟨rfl, hB.trans (o8.below (by omega))⟩
end Go.Proofs.Ytfbeclleeehaaaa
