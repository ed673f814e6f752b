/-
  Own text. What Sum of package poly answers: a contract over the translation.
-/
import Derived.Test.YtfbeclleeehaaaaN12
namespace Go.Proofs.Ytfbeclleeehaaaa
open Go.RowKit Go.Proofs
set_option maxHeartbeats 8000000 in
set_option maxRecDepth 100000 in
theorem Sum_run (b : Nat) (key f : Nat → Int) (n : Nat) (w : World) (hM : MacN w b key f n) :
    Calls Try.prog 14 #[.pointer (some ⟨b, 0, none⟩)] w fun e w' => e = .returned (.agg (WA .u8 16 (digN (markN key f n)))) ∧ Below w.heap.size w w' := by
  obtain ⟨R, S, Z, H, gm, hst⟩ := hM
  have hlt := gm.lt
  obtain ⟨h, hh⟩ : ∃ h, n % 16 = h := ⟨_, rfl⟩
  rw [hh] at gm
  have HM : Hid (∀ v, Below w.heap.size w v → MacAt v b R S Z H (h : Int)) := Hid.mk (fun v hv => gm.below hv hlt)
  have HST := Hid.mk hst
  have HH : Hid (h ≤ 16) := Hid.mk (by omega)
  have gma := gm.alloc (.cells (WA .u8 16 fun _ => 0) 23)
  have hsum := gma.sum
  have g0 : ArrAt ((w.alloc (.cells (WA .u8 16 fun _ => 0) 23)).alloc (.cells (WA .u64 5 fun _ => 0) 40)) w.heap.size .u8 23 16 (fun _ => 0) := heap_alloc2_old w _ _
  have gz : ArrAt ((w.alloc (.cells (WA .u8 16 fun _ => 0) 23)).alloc (.cells (WA .u64 5 fun _ => 0) 40)) (w.heap.size + 1) .u64 40 5 (fun _ => 0) := heap_alloc2_new w _ _
  have hB : Below w.heap.size w ((w.alloc (.cells (WA .u8 16 fun _ => 0) 23)).alloc (.cells (WA .u64 5 fun _ => 0) 40)) := ((Below.refl _ w).alloc (by simp) _).alloc (by simp) _
  clear hst gm
  go_enter Try.func14, Try.ntmps14
  go_wp2_with (first | (refine wl_value rfl (exec_ldmid rfl isL (by rfl) hsum) ?_) | (refine st_arr isL gz (by rfl) (by rfl) ?_; intro v1 g3 o1; refine Hid.out ?_))
  replace g0 := g0.only o1 (by omega)
  replace hB := hB.trans (o1.below (by omega))
  clear o1 gz hsum gma
  have hch := (HM.out _ hB).held
  by_cases hp : 0 < h
  · have hpi : (0 : Int) < (h : Int) := by omega
    refine Hid.mk ?_
    go_wp2_with fail
    refine wp_gen (fun v => ArrAt v w.heap.size .u8 23 16 (fun _ => 0) ∧ ArrAt v (w.heap.size + 1) .u64 40 5 Z ∧ Below w.heap.size w v) ⟨g0, g3, hB⟩ ?_
    clear g0 g3 hB hch
    rintro v2 ⟨g0, g3, hB⟩
    refine wp_region3 (Below w.heap.size w) v2.heap.size
        [((w.heap.size + 1), ⟨isOb (WA .u64 5 Z) 40, [(10, fun ob => ∃ z, Sm z ∧ (∃ q, (qv Z 5 + (dval H h + 256 ^ h)) * qv R 5 = qv z 5 + P130 * q) ∧ ob = .cells (WA .u64 5 z) 40 (0, 0))]⟩), (w.heap.size, fixd (WA .u8 16 (fun _ => 0)) 23)]
        [kv (.pointer (some ⟨b, 0, none⟩)), kv (.pointer (some ⟨b, 0, none⟩)), kv (.pointer (some ⟨b, 0, none⟩)), kv (.pointer (some ⟨b, 12, none⟩)), kv (.pointer (some ⟨b, 0, none⟩)), kv (.pointer (some ⟨b, 0, none⟩)), kv (.pointer (some ⟨b, 28, none⟩)), kv (.int .i64 (h : Int)), kv (.slice (some ⟨b, 12, none⟩) h 16), .val fun v => ∃ z, Sm z ∧ (∃ q, (qv Z 5 + (dval H h + 256 ^ h)) * qv R 5 = qv z 5 + P130 * q) ∧ v = .agg (WA .u64 5 z), .val fun _ => True]
        [.none, .none, .none, .none, .none, .none, .none, .none, .none, .none, .base 0 1]
        [some 16, some 17, some 18, some 19, some 20, some 21, some 22, some 23, some 24, some 25, none]
        [(0, .pointer (some ⟨b, 0, none⟩)), (3, .pointer (some ⟨(w.heap.size + 1), 0, none⟩))]
        [[], [], [.slot 1], [.slot 2], [], [.slot 4], [.slot 5], [.slot 6], [.slot 3, .slot 7], [.slot 0, .slot 8], [.base 0 0, .slot 9]]
        [.base 0 1, .base 1 0] [16, 17, 18, 19, 20, 21, 22, 23, 24, 25]
        rfl (by kernel_rfl) ⟨rfl, rfl, trivial⟩ (Below.drew hB) (Nat.le_refl _) ⟨⟨g3.lt, obIn g3⟩, ⟨g0.lt, obIn g0⟩, trivial⟩ ⟨⟨(show ((w.heap.size + 1) : Nat) ≠ w.heap.size from by omega), trivial⟩, trivial, trivial⟩ (below_G hB.size ⟨by omega, by omega, trivial⟩)
        ⟨
          -- 0
          (fun Q aq ww own hS hBg fr kn => .inl ⟨trivial, fun K hK => wp_value (exec_move rfl fr.1) (hK _ _ ⟨Touch.refl _ _, rfl⟩)⟩),
          -- 1
          (fun Q aq ww own hS hBg fr kn => .inl ⟨trivial, fun K hK => wp_value (exec_move rfl fr.1) (hK _ _ ⟨Touch.refl _ _, rfl⟩)⟩),
          -- 2
          (fun Q aq ww own hS hBg fr kn => .inl ⟨trivial, fun K hK => wp_value (exec_nilc rfl kn.1) (hK _ _ ⟨Touch.refl _ _, rfl⟩)⟩),
          -- 3
          (fun Q aq ww own hS hBg fr kn => .inl ⟨trivial, fun K hK => wp_value (exec_fm (k := 3) rfl kn.1 (by decide)) (hK _ _ ⟨Touch.refl _ _, rfl⟩)⟩),
          -- 4
          (fun Q aq ww own hS hBg fr kn => .inl ⟨trivial, fun K hK => wp_value (exec_move rfl fr.1) (hK _ _ ⟨Touch.refl _ _, rfl⟩)⟩),
          -- 5
          (fun Q aq ww own hS hBg fr kn => .inl ⟨trivial, fun K hK => wp_value (exec_nilc rfl kn.1) (hK _ _ ⟨Touch.refl _ _, rfl⟩)⟩),
          -- 6
          (fun Q aq ww own hS hBg fr kn => .inl ⟨trivial, fun K hK => wp_value (exec_fm (k := 4) rfl kn.1 (by decide)) (hK _ _ ⟨Touch.refl _ _, rfl⟩)⟩),
          -- 7
          (fun Q aq ww own hS hBg fr kn => .inl ⟨trivial, fun K hK => wp_value (exec_ld rfl kn.1 (load_int (HM.out ww hS).held)) (hK _ _ ⟨Touch.refl _ _, rfl⟩)⟩),
          -- 8
          (fun Q aq ww own hS hBg fr kn => .inl ⟨trivial, fun K hK => wp_value (exec_slH rfl kn.1 kn.2.1 (sl16h b h _ HH.out)) (hK _ _ ⟨Touch.refl _ _, rfl⟩)⟩),
          -- 9
          (fun Q aq ww own hS hBg fr kn => .inl ⟨trivial, fun K hK => stepp enterBehind rfl (args2 kn.1 kn.2.1) ((behind_run b h 16 R S Z H (h : Int) ww (HM.out ww hS) HST.out.zs HST.out.rd HST.out.hb HH.out).mono (fun e w' ⟨z, h1, h2, h3, h4⟩ => ⟨_, h3, ⟨z, h1, h2, rfl⟩, h4⟩)) (R := fun v w' => (∃ z, Sm z ∧ (∃ q, (qv Z 5 + (dval H h + 256 ^ h)) * qv R 5 = qv z 5 + P130 * q) ∧ v = .agg (WA .u64 5 z)) ∧ Below ww.heap.size ww w') (fun v w' ⟨h1, h2⟩ => hK _ _ ⟨touch_below h2, h1⟩)⟩),
          -- 10
          (fun Q aq ww own hS hBg fr kn => .inl ⟨trivial, fun K hK => (by obtain ⟨z, h1, h2, h3⟩ := kn.2.1; exact act_arr rfl isL fr.2.1 h3 (obAt kn.1) (fun w2 hg ho => hK _ _ ⟨⟨touch_only ho, ⟨_, hg, z, h1, h2, rfl⟩⟩, trivial⟩))⟩),
          trivial⟩ ?_
    intro vs own v3 hB3 hs3 kn inj
    clear inj hs3 g0 g3 hB
    obtain ⟨ob, hob, z, h1, ⟨q, hq⟩, rfl⟩ := kn.1
    have g3 : ArrAt v3 (w.heap.size + 1) .u64 40 5 z := hob
    have g0 : ArrAt v3 w.heap.size .u8 23 16 (fun _ => 0) := obAt kn.2.1
    clear kn
    have hB := hB3
    have HZ := Hid.mk h1
    have HQ : Hid ((qv z 5 % P130 + (S 0 + 18446744073709551616 * S 1)) % 340282366920938463463374607431768211456 = markN key f n) := Hid.mk (HST.out.left (by omega) (q := q) (by rw [hh]; exact hq))
    clear h1 hq hB3
    simp only [putAll, Act.put, List.setIfInBounds_toArray, List.set_cons_zero, List.set_cons_succ]
    go_wp2_with fail
    refine wp_region3 (Below w.heap.size w) v3.heap.size
      [((w.heap.size + 1), fixd (WA .u64 5 z) 40), (w.heap.size, once (WA .u8 16 (fun _ => 0)) 23 6 (WA .u8 16 (digN ((qv z 5 % P130 + (S 0 + 18446744073709551616 * S 1)) % 340282366920938463463374607431768211456))))]
      [kv (.agg (WA .u64 5 z)), kv (.pointer (some ⟨b, 0, none⟩)), kv (.pointer (some ⟨b, 0, none⟩)), kv (.pointer (some ⟨b, 5, none⟩)), kv (.agg (WA .u64 2 S)), kv (.agg (WA .u8 16 (digN ((qv z 5 % P130 + (S 0 + 18446744073709551616 * S 1)) % 340282366920938463463374607431768211456)))), .val fun _ => True]
      [.none, .none, .none, .none, .none, .none, .base 1 1]
      [some 26, some 27, some 28, some 29, some 30, some 31, none]
      [(0, .pointer (some ⟨b, 0, none⟩)), (3, .pointer (some ⟨(w.heap.size + 1), 0, none⟩)), (2, .pointer (some ⟨w.heap.size, 0, none⟩))]
      [[.base 0 0], [], [.slot 1], [.slot 2], [.slot 3], [.slot 0, .slot 4], [.base 1 0, .slot 5]]
      [.base 1 1] [26, 27, 28, 29, 30, 31]
      rfl (by kernel_rfl) ⟨rfl, rfl, rfl, trivial⟩ (Below.drew hB) (Nat.le_refl _) ⟨⟨g3.lt, obIn g3⟩, ⟨g0.lt, obIn g0⟩, trivial⟩ ⟨⟨(show ((w.heap.size + 1) : Nat) ≠ w.heap.size from by omega), trivial⟩, trivial, trivial⟩ (below_G hB.size ⟨by omega, by omega, trivial⟩)
      ⟨
        -- 0
        (fun Q aq ww own hS hBg fr kn => .inl ⟨trivial, fun K hK => wp_value (look_arr rfl isL (obAt kn.1) fr.2.1) (hK _ _ ⟨Touch.refl _ _, rfl⟩)⟩),
        -- 1
        (fun Q aq ww own hS hBg fr kn => .inl ⟨trivial, fun K hK => wp_value (exec_move rfl fr.1) (hK _ _ ⟨Touch.refl _ _, rfl⟩)⟩),
        -- 2
        (fun Q aq ww own hS hBg fr kn => .inl ⟨trivial, fun K hK => wp_value (exec_nilc rfl kn.1) (hK _ _ ⟨Touch.refl _ _, rfl⟩)⟩),
        -- 3
        (fun Q aq ww own hS hBg fr kn => .inl ⟨trivial, fun K hK => wp_value (exec_fm (k := 1) rfl kn.1 (by decide)) (hK _ _ ⟨Touch.refl _ _, rfl⟩)⟩),
        -- 4
        (fun Q aq ww own hS hBg fr kn => .inl ⟨trivial, fun K hK => wp_value (exec_ldmid rfl isS2 kn.1 (HM.out ww hS).s) (hK _ _ ⟨Touch.refl _ _, rfl⟩)⟩),
        -- 5
        (fun Q aq ww own hS hBg fr kn => .inl ⟨trivial, fun K hK => stepc enterMark rfl (args2 kn.1 kn.2.1) (pmark_run z S ww HZ.out HST.out.s0 HST.out.s1) (fun w' hb => hK _ _ ⟨touch_below hb, rfl⟩)⟩),
        -- 6
        (fun Q aq ww own hS hBg fr kn => .inl ⟨trivial, fun K hK => act_arr rfl isArr16 fr.2.2.1 kn.2.1 (obAt kn.1) (fun w2 hg ho => hK _ _ ⟨⟨touch_only ho, obIn hg⟩, trivial⟩)⟩),
        trivial⟩ ?_
    intro vs own v9 hB9 hs9 kn inj
    clear inj hs9 g0 g3 hB
    have g0 : ArrAt v9 w.heap.size .u8 23 16 (digN ((qv z 5 % P130 + (S 0 + 18446744073709551616 * S 1)) % 340282366920938463463374607431768211456)) := obAt kn.1
    clear kn
    simp only [putAll, Act.put, List.setIfInBounds_toArray, List.set_cons_zero, List.set_cons_succ]
    rw [HQ.out] at g0
    go_wp2_with fail
    exact bodyPost_ret (res_arr Try.results14 isArr16 g0 (by rfl)) rfl ⟨rfl, hB9⟩
  · have hpi : ¬ ((0 : Int) < (h : Int)) := by omega
    have hpd : decide ((0 : Int) < (h : Int)) = false := decide_eq_false hpi
    have HZ := Hid.mk HST.out.zs
    have HQ := Hid.mk (HST.out.none (by omega))
    refine Hid.mk ?_
    go_wp2_with fail
    refine wp_gen (fun v => ArrAt v w.heap.size .u8 23 16 (fun _ => 0) ∧ ArrAt v (w.heap.size + 1) .u64 40 5 Z ∧ Below w.heap.size w v) ⟨g0, g3, hB⟩ ?_
    clear g0 g3 hB hch
    rintro v3 ⟨g0, g3, hB⟩
    refine wp_region3 (Below w.heap.size w) v3.heap.size
      [((w.heap.size + 1), fixd (WA .u64 5 Z) 40), (w.heap.size, once (WA .u8 16 (fun _ => 0)) 23 6 (WA .u8 16 (digN ((qv Z 5 % P130 + (S 0 + 18446744073709551616 * S 1)) % 340282366920938463463374607431768211456))))]
      [kv (.agg (WA .u64 5 Z)), kv (.pointer (some ⟨b, 0, none⟩)), kv (.pointer (some ⟨b, 0, none⟩)), kv (.pointer (some ⟨b, 5, none⟩)), kv (.agg (WA .u64 2 S)), kv (.agg (WA .u8 16 (digN ((qv Z 5 % P130 + (S 0 + 18446744073709551616 * S 1)) % 340282366920938463463374607431768211456)))), .val fun _ => True]
      [.none, .none, .none, .none, .none, .none, .base 1 1]
      [some 26, some 27, some 28, some 29, some 30, some 31, none]
      [(0, .pointer (some ⟨b, 0, none⟩)), (3, .pointer (some ⟨(w.heap.size + 1), 0, none⟩)), (2, .pointer (some ⟨w.heap.size, 0, none⟩))]
      [[.base 0 0], [], [.slot 1], [.slot 2], [.slot 3], [.slot 0, .slot 4], [.base 1 0, .slot 5]]
      [.base 1 1] [26, 27, 28, 29, 30, 31]
      rfl (by kernel_rfl) ⟨rfl, rfl, rfl, trivial⟩ (Below.drew hB) (Nat.le_refl _) ⟨⟨g3.lt, obIn g3⟩, ⟨g0.lt, obIn g0⟩, trivial⟩ ⟨⟨(show ((w.heap.size + 1) : Nat) ≠ w.heap.size from by omega), trivial⟩, trivial, trivial⟩ (below_G hB.size ⟨by omega, by omega, trivial⟩)
      ⟨
        -- 0
        (fun Q aq ww own hS hBg fr kn => .inl ⟨trivial, fun K hK => wp_value (look_arr rfl isL (obAt kn.1) fr.2.1) (hK _ _ ⟨Touch.refl _ _, rfl⟩)⟩),
        -- 1
        (fun Q aq ww own hS hBg fr kn => .inl ⟨trivial, fun K hK => wp_value (exec_move rfl fr.1) (hK _ _ ⟨Touch.refl _ _, rfl⟩)⟩),
        -- 2
        (fun Q aq ww own hS hBg fr kn => .inl ⟨trivial, fun K hK => wp_value (exec_nilc rfl kn.1) (hK _ _ ⟨Touch.refl _ _, rfl⟩)⟩),
        -- 3
        (fun Q aq ww own hS hBg fr kn => .inl ⟨trivial, fun K hK => wp_value (exec_fm (k := 1) rfl kn.1 (by decide)) (hK _ _ ⟨Touch.refl _ _, rfl⟩)⟩),
        -- 4
        (fun Q aq ww own hS hBg fr kn => .inl ⟨trivial, fun K hK => wp_value (exec_ldmid rfl isS2 kn.1 (HM.out ww hS).s) (hK _ _ ⟨Touch.refl _ _, rfl⟩)⟩),
        -- 5
        (fun Q aq ww own hS hBg fr kn => .inl ⟨trivial, fun K hK => stepc enterMark rfl (args2 kn.1 kn.2.1) (pmark_run Z S ww HZ.out HST.out.s0 HST.out.s1) (fun w' hb => hK _ _ ⟨touch_below hb, rfl⟩)⟩),
        -- 6
        (fun Q aq ww own hS hBg fr kn => .inl ⟨trivial, fun K hK => act_arr rfl isArr16 fr.2.2.1 kn.2.1 (obAt kn.1) (fun w2 hg ho => hK _ _ ⟨⟨touch_only ho, obIn hg⟩, trivial⟩)⟩),
        trivial⟩ ?_
    intro vs own v9 hB9 hs9 kn inj
    clear inj hs9 g0 g3 hB
    have g0 : ArrAt v9 w.heap.size .u8 23 16 (digN ((qv Z 5 % P130 + (S 0 + 18446744073709551616 * S 1)) % 340282366920938463463374607431768211456)) := obAt kn.1
    clear kn
    simp only [putAll, Act.put, List.setIfInBounds_toArray, List.set_cons_zero, List.set_cons_succ]
    rw [HQ.out] at g0
    go_wp2_with fail
    exact bodyPost_ret (res_arr Try.results14 isArr16 g0 (by rfl)) rfl ⟨rfl, hB9⟩
theorem build16 (w : World) : (Instr.build 23 #[]).run Try.prog w = .ok (.agg (WA .u8 16 fun _ => 0)) w := by kernel_rfl
theorem exec_b16 {a : Act} {o : Oper} {w : World} (ho : o.op = .build 23 #[]) : (execOp a.eval o).run Try.prog w = .ok (.value (.agg (WA .u8 16 fun _ => 0))) w := by
  have h := build16 w
  unfold execOp
  simp only [ho, List.map_toArray, List.map_nil, Sem.run_bind, h, Result.andThen_ok, Sem.run_pure]
theorem Sum_nil (w : World) : Calls Try.prog 14 #[.pointer none] w fun e w' => e = .returned (.agg (WA .u8 16 fun _ => 0)) ∧ Below w.heap.size w w' := by
  have g0 : ArrAt (w.alloc (.cells (WA .u8 16 fun _ => 0) 23)) w.heap.size .u8 23 16 (fun _ => 0) := heap_alloc_new w _
  have hB : Below w.heap.size w (w.alloc (.cells (WA .u8 16 fun _ => 0) 23)) := (Below.refl _ w).alloc (Nat.le_refl _) _
  go_enter Try.func14, Try.ntmps14
  go_wp2_with (first | (refine wl_value rfl (exec_b16 rfl) ?_) | (refine st_arr isArr16 g0 (by rfl) (by rfl) ?_; intro v1 g1 o1; refine Hid.out ?_))
  refine Hid.mk ?_
  go_wp2_with fail
  exact bodyPost_ret (res_arr Try.results14 isArr16 g1 (by rfl)) rfl ⟨rfl, hB.trans (o1.below (Nat.le_refl _))⟩
end Go.Proofs.Ytfbeclleeehaaaa
