/-
  Own text. The walk of the law PolyGoes.
-/
import Derived.Test.YtfbeclleeehaaaaQ4a
import Derived.Test.YtfbeclleeehaaaaP8
namespace Go.Proofs.Ytfbeclleeehaaaa
open Go.RowKit Go.Proofs
theorem exec_lssT {a : Act} {o : Oper} {w : World} {x y : Operand} (ho : o.op = .binOp .lss 3 x y 3) {m n : Int} (hx : a.eval x = .int .i64 m) (hy : a.eval y = .int .i64 n) (h : m < n) : (execOp a.eval o).run Try.prog w = .ok (.value (.bool true)) w := exec_bin ho rfl hx hy (by simp [go_sem, h])
theorem exec_lssF {a : Act} {o : Oper} {w : World} {x y : Operand} (ho : o.op = .binOp .lss 3 x y 3) {m n : Int} (hx : a.eval x = .int .i64 m) (hy : a.eval y = .int .i64 n) (h : n ≤ m) : (execOp a.eval o).run Try.prog w = .ok (.value (.bool false)) w := exec_bin ho rfl hx hy (by simp [go_sem]; omega)
theorem Strs.take {w : World} {ad : Option Addr} {n m c : Nat} {ts : Nat → ByteArray} (h : Strs w (.slice ad n c) n ts) (hm : m ≤ n) : Strs w (.slice ad m c) m ts := by
  obtain ⟨a, c', e, hp⟩ := h
  simp only [Value.slice.injEq] at e
  obtain ⟨rfl, _, rfl⟩ := e
  refine ⟨ad, c, rfl, fun h0 => ?_⟩
  obtain ⟨p, h1, h2⟩ := hp (by omega)
  exact ⟨p, h1, fun j hj => h2 j (by omega)⟩
theorem cat_txt (A B : ByteArray) : cat A.size (txt A) (txt B) = txt (A ++ B) := by
  funext j
  unfold cat
  rw [txt_append]
theorem MacN.touch {w w' : World} {b g : Nat} {key f : Nat → Int} {n : Nat} (h : MacN w b key f n) (ht : Touch (fun x => x = g) w w') (hb : b ≠ g) : MacN w' b key f n := h.block (ht.block b h.lt hb)
set_option maxHeartbeats 8000000 in
set_option maxRecDepth 100000 in
theorem goes_walk (key other : Nat → Int) (v : Value) (n : Nat) (ts : Nat → ByteArray) (w : World) (hk : Byts 32 key) (ho : Byts 32 other) (hS : Strs w v n ts) (hcap : CapOK v) (hb : n + (joinB ts n).size ≤ 1048576) : Calls Try.prog 5 #[.agg (WA .u8 32 key), .agg (WA .u8 32 other), v] w fun e w' => e = .returned (.bool true) ∧ Below w.heap.size w w' := by
  have g0 : ArrAt ((w.alloc (.cells (WA .u8 32 key) 22)).alloc (.cells (WA .u8 32 other) 22)) w.heap.size .u8 22 32 key := heap_alloc2_old w _ _
  have g1 : ArrAt ((w.alloc (.cells (WA .u8 32 key) 22)).alloc (.cells (WA .u8 32 other) 22)) (w.heap.size + 1) .u8 22 32 other := heap_alloc2_new w _ _
  have hB : Below w.heap.size w ((w.alloc (.cells (WA .u8 32 key) 22)).alloc (.cells (WA .u8 32 other) 22)) := ((Below.refl _ w).alloc (by simp) _).alloc (by simp) _
  obtain ⟨ad, c, rfl, hp⟩ := hS
  have hnc := hcap _ _ _ rfl
  have HS : Hid (Strs w (.slice ad n c) n ts) := Hid.mk ⟨ad, c, rfl, hp⟩
  have HK := Hid.mk hk
  have HJ : Hid ((joinB ts n).size ≤ 140737488355328) := Hid.mk (by omega)
  clear hp hcap
  go_enter Try.func5, Try.ntmps5
  go_wp2_with (refine ld_arr isArr32 g0 (by rfl) ?_)
  refine (New_run key (txt (joinB ts 0)) _ hk).mono ?_
  rintro e v1 ⟨bm, hbm, rfl, hM, hb1⟩
  replace hbm : w.heap.size + 1 + 1 ≤ bm := by simpa using hbm
  replace g0 := g0.kept hb1
  replace g1 := g1.kept hb1
  replace hB := hB.trans (hb1.mono hB.size)
  clear hb1
  go_wp2_with (refine ld_arr isArr32 g1 (by rfl) ?_)
  refine (New_run other (fun _ => 0) _ ho).mono ?_
  rintro e v2 ⟨bo, hbo, rfl, hO1, hb2⟩
  have hmo : bm < bo := by have := hM.lt; omega
  replace g0 := g0.kept hb2
  replace hM := hM.kept hb2
  replace hB := hB.trans (hb2.mono hB.size)
  have hO : ∃ f m, MacN v2 bo other f m := ⟨_, _, hO1⟩
  clear hb2 g1 hO1 hbo ho hk
  go_wp2_with fail
  go_loopg [9] n (fun gm iv u => ∃ i : Nat, Hid (gm + i = n) ∧ iv = .int .i64 (i : Int) ∧ ArrAt u w.heap.size .u8 22 32 key ∧ MacN u bm key (txt (joinB ts i)) (joinB ts i).size ∧ (∃ f m, MacN u bo other f m) ∧ Below w.heap.size w u)
  case atStart => exact ⟨0, Hid.mk rfl, rfl, g0, hM, hO, hB⟩
  case round =>
    clear g0 hM hO hB
    obtain ⟨i, HI, rfl, g0, hM, hO, hB⟩ := hrel
    have hin : i ≤ n := by have := HI.out; omega
    by_cases hil : i < n
    · have hcell : ∃ p, ad = some p ∧ wr.cell? (p.add i) = some (.string (ts i)) := by
        obtain ⟨a', c', e, hp⟩ := HS.out.below hB
        simp only [Value.slice.injEq] at e
        obtain ⟨rfl, _, rfl⟩ := e
        obtain ⟨p, h1, h2⟩ := hp (by omega)
        exact ⟨p, h1, h2 i hil⟩
      obtain ⟨p, rfl, hc1⟩ := hcell
      generalize gk = gz at *
      go_wp2_with (refine wl_bs1 (by rfl) ?_; intro u1 hS1 hb1 hz1; refine Hid.out ?_)
      have hc2 : u1.cell? (p.add i) = some (.string (ts i)) := (hb1.cell (World.block_lt_of_cell? _ _ hc1)).trans hc1
      have hlm := hM.lt
      replace g0 := g0.kept hb1
      replace hM := hM.kept hb1
      obtain ⟨f1, m1, hO1⟩ := hO
      replace hO1 := hO1.kept hb1
      replace hB := hB.trans (hb1.mono hB.size)
      clear hb1 hz1 hc1
      refine Hid.mk ?_
      go_wp2_with fail
      refine (Write_run bm key _ _ _ 1 (one1 (ts i)) u1 hM (fun u ht => hS1.touch (fun q n' c' e => by simp only [Value.slice.injEq, Option.some.injEq] at e; rw [← e.1]; show wr.heap.size ≠ bm; omega) ht) (by decide)).mono ?_
      rintro e u2 ⟨rfl, hM2, ht2⟩
      rw [join1, cat_txt, ← ByteArray.size_append] at hM2
      replace hM : MacN u2 bm key (txt (joinB ts (i + 1))) (joinB ts (i + 1)).size := hM2
      replace g0 := g0.touch ht2 (by omega)
      replace hO1 := hO1.touch ht2 (by omega)
      have hc3 : u2.cell? (p.add i) = some (.string (ts i)) := by
        obtain ⟨a', c', e, hp⟩ := HS.out.below (belowT hB ht2 (by omega) (Nat.le_refl _))
        simp only [Value.slice.injEq] at e
        obtain ⟨rfl, _, rfl⟩ := e
        obtain ⟨q, h1, h2⟩ := hp (by omega)
        obtain rfl := Option.some.inj h1
        exact h2 i hil
      replace hB := belowT hB ht2 (by omega) (Nat.le_refl _)
      clear hM2 ht2 hS1 hc2 hlm
      go_wp2_with (refine wl_bs2 (by rfl) (by rfl) ?_; intro u3 hS3 hb3 hz3; refine Hid.out ?_)
      have hlo := hO1.lt
      replace g0 := g0.kept hb3
      replace hM := hM.kept hb3
      replace hO1 := hO1.kept hb3
      replace hB := hB.trans (hb3.mono hB.size)
      clear hb3 hz3 hc3
      refine Hid.mk ?_
      go_wp2_with fail
      refine (Write_run bo other _ _ _ 2 _ u3 hO1 (fun u ht => hS3.touch (fun q n' c' e => by simp only [Value.slice.injEq, Option.some.injEq] at e; rw [← e.1]; show u2.heap.size ≠ bo; omega) ht) (by decide)).mono ?_
      rintro e u4 ⟨rfl, hO4, ht4⟩
      replace hM := hM.touch ht4 (by omega)
      replace g0 := g0.touch ht4 (by omega)
      replace hB := belowT hB ht4 (by omega) (Nat.le_refl _)
      have hO : ∃ f m, MacN u4 bo other f m := ⟨_, _, hO4⟩
      clear hO4 ht4 hS3 hO1 hlo
      have HN1 : Hid (i + 1 < 4611686018427387904) := Hid.mk (by omega)
      have HJ1 : Hid ((joinB ts (i + 1)).size ≤ 140737488355328) := Hid.mk (by have := joinB_mono ts (show i + 1 ≤ n from hil); omega)
      have HC : Hid (i + 1 ≤ c) := Hid.mk (by omega)
      by_cases hl12 : i < 12
      · have HL : Hid ((i : Int) < 12) := Hid.mk (by omega)
        go_wp2_with fail
        refine wp_gen (fun u => ArrAt u w.heap.size .u8 22 32 key ∧ MacN u bm key (txt (joinB ts (i + 1))) (joinB ts (i + 1)).size ∧ (∃ f m, MacN u bo other f m) ∧ Below w.heap.size w u) ⟨g0, hM, hO, hB⟩ ?_
        clear g0 hM hO hB
        rintro v0 ⟨g0, hM, hO, hB⟩
        have HMB : Hid (∀ u, Below v0.heap.size v0 u → MacN u bm key (txt (joinB ts (i + 1))) (joinB ts (i + 1)).size) := Hid.mk (fun u hu => hM.kept hu)
        have HG0 : Hid (∀ u, Below v0.heap.size v0 u → ArrAt u w.heap.size .u8 22 32 key) := Hid.mk (fun u hu => g0.kept hu)
        have HV : Hid (∀ u, Below v0.heap.size v0 u → Strs u (.slice (some p) (i + 1) c) (i + 1) ts) := Hid.mk (fun u hu => ((HS.out.below hB).below hu).take (by omega))
        refine wp_region3 (Below v0.heap.size v0) v0.heap.size
            ([] : List (Nat × Cont))
            [kv (.int .i64 (i : Int)), kv (.bool true), kv (.bool true), kv (.pointer (some ⟨bm, 0, none⟩)), kv (.agg (WA .u8 16 (digN (markN key (txt (joinB ts (i + 1))) (joinB ts (i + 1)).size)))), kv (.agg (WA .u8 32 key)), kv (.slice (some p) n c), kv (.int .i64 (i : Int)), kv (.int .i64 ((i + 1 : Nat) : Int)), kv (.slice (some p) (i + 1) c), kv (.string (joinB ts (i + 1))), kv (.agg (WA .u8 16 (digN (markN key (txt (joinB ts (i + 1))) (joinB ts (i + 1)).size)))), kv (.bool false), kv (.bool false)]
            [.none, .none, .none, .none, .none, .none, .none, .none, .none, .none, .none, .none, .none, .none]
            [some 42, some 43, some 44, some 45, some 46, some 47, some 48, some 49, some 50, some 51, some 52, some 53, some 54, some 55]
            [(9, .int .i64 (i : Int)), (7, .pointer (some ⟨bm, 0, none⟩)), (3, .pointer (some ⟨w.heap.size, 0, none⟩)), (2, .slice (some p) n c)]
            [[], [.slot 0], [.slot 1], [.slot 2], [.slot 2, .slot 3], [.slot 2], [.slot 2], [.slot 2], [.slot 2, .slot 7], [.slot 2, .slot 6, .slot 8], [.slot 2, .slot 9], [.slot 2, .slot 5, .slot 10], [.slot 2, .slot 4, .slot 11], [.slot 2, .slot 12]]
            [.slot 13] [42, 43, 44, 45, 46, 47, 48, 49, 50, 51, 52, 53, 54, 55]
            rfl (by kernel_rfl) ⟨rfl, rfl, rfl, rfl, trivial⟩ (Below.refl _ v0).drew (Nat.le_refl _) trivial trivial (below_G (Nat.le_refl _) trivial)
            ⟨
              -- 0
              (fun Q aq ww own hS hBg fr kn => .inl ⟨trivial, fun K hK => wp_value (exec_move rfl fr.1) (hK _ _ ⟨Touch.refl _ _, rfl⟩)⟩),
              -- 1
              (fun Q aq ww own hS hBg fr kn => .inl ⟨trivial, fun K hK => wp_value (exec_lssT rfl kn.1 rfl HL.out) (hK _ _ ⟨Touch.refl _ _, rfl⟩)⟩),
              -- 2
              (fun Q aq ww own hS hBg fr kn => .inl ⟨trivial, fun K hK => wp_value (exec_move rfl kn.1) (hK _ _ ⟨Touch.refl _ _, rfl⟩)⟩),
              -- 3
              (fun Q aq ww own hS hBg fr kn => .inl ⟨kn.1, fun K hK => wp_value (exec_move rfl fr.2.1) (hK _ _ ⟨Touch.refl _ _, rfl⟩)⟩),
              -- 4
              (fun Q aq ww own hS hBg fr kn => .inl ⟨kn.1, fun K hK => stepc enterSum rfl (args1 kn.2.1) (Sum_run bm key _ _ ww (HMB.out ww hS)) (fun w' hb => hK _ _ ⟨touch_below hb, rfl⟩)⟩),
              -- 5
              (fun Q aq ww own hS hBg fr kn => .inl ⟨kn.1, fun K hK => wp_value (look_arr rfl isArr32 (HG0.out ww hS) fr.2.2.1) (hK _ _ ⟨Touch.refl _ _, rfl⟩)⟩),
              -- 6
              (fun Q aq ww own hS hBg fr kn => .inl ⟨kn.1, fun K hK => wp_value (exec_move rfl fr.2.2.2.1) (hK _ _ ⟨Touch.refl _ _, rfl⟩)⟩),
              -- 7
              (fun Q aq ww own hS hBg fr kn => .inl ⟨kn.1, fun K hK => wp_value (exec_move rfl fr.1) (hK _ _ ⟨Touch.refl _ _, rfl⟩)⟩),
              -- 8
              (fun Q aq ww own hS hBg fr kn => .inl ⟨kn.1, fun K hK => wp_value (exec_add rfl kn.2.1 rfl (by omega) (by omega)) (hK _ _ ⟨Touch.refl _ _, rfl⟩)⟩),
              -- 9
              (fun Q aq ww own hS hBg fr kn => .inl ⟨kn.1, fun K hK => wp_value (exec_slH rfl kn.2.1 kn.2.2.1 (slStr (some p) (i + 1) n c ww HC.out)) (hK _ _ ⟨Touch.refl _ _, rfl⟩)⟩),
              -- 10
              (fun Q aq ww own hS hBg fr kn => .inl ⟨kn.1, fun K hK => stepc enterJoined rfl (args1 kn.2.1) (joined_run _ (i + 1) ts ww (HV.out ww hS) HN1.out HJ1.out) (fun w' hb => hK _ _ ⟨touch_below hb, rfl⟩)⟩),
              -- 11
              (fun Q aq ww own hS hBg fr kn => .inl ⟨kn.1, fun K hK => stepc enterRTag rfl (args2 kn.2.1 kn.2.2.1) (rTag_run key (joinB ts (i + 1)) ww HK.out HJ1.out) (fun w' hb => hK _ _ ⟨touch_below hb, rfl⟩)⟩),
              -- 12
              (fun Q aq ww own hS hBg fr kn => .inl ⟨kn.1, fun K hK => wp_value (neq_WA rfl Try.underlying23 eqG16 kn.2.1 kn.2.2.1) (hK _ _ ⟨Touch.refl _ _, rfl⟩)⟩),
              -- 13
              (fun Q aq ww own hS hBg fr kn => .inl ⟨trivial, fun K hK => wp_value (exec_pick rfl kn.1 kn.2.1) (hK _ _ ⟨Touch.refl _ _, rfl⟩)⟩),
              trivial⟩ ?_
        intro vs own v5 hB5 hs5 kn inj
        clear inj hs5
        replace g0 := g0.kept hB5
        replace hM := hM.kept hB5
        obtain ⟨f5, m5, hO5⟩ := hO
        have hO : ∃ f m, MacN v5 bo other f m := ⟨f5, m5, hO5.kept hB5⟩
        replace hB := hB.trans (hB5.mono hB.size)
        have e55 : vs 55 = .bool false := kn.1
        clear kn hB5 hO5 HMB HG0 HV
        simp only [putAll, Act.put, List.setIfInBounds_toArray, List.set_cons_zero, List.set_cons_succ, e55]
        go_wp2_with fail
        go_roundg (n - (i + 1))
        case rel => exact ⟨i + 1, Hid.mk (by omega), by go_num, g0, hM, hO, hB⟩
        case measure => have := HI.out; omega
      · have HL : Hid ((12 : Int) ≤ (i : Int)) := Hid.mk (by omega)
        go_wp2_with fail
        refine wp_gen (fun u => ArrAt u w.heap.size .u8 22 32 key ∧ MacN u bm key (txt (joinB ts (i + 1))) (joinB ts (i + 1)).size ∧ (∃ f m, MacN u bo other f m) ∧ Below w.heap.size w u) ⟨g0, hM, hO, hB⟩ ?_
        clear g0 hM hO hB
        rintro v0 ⟨g0, hM, hO, hB⟩
        have HMB : Hid (∀ u, Below v0.heap.size v0 u → MacN u bm key (txt (joinB ts (i + 1))) (joinB ts (i + 1)).size) := Hid.mk (fun u hu => hM.kept hu)
        have HG0 : Hid (∀ u, Below v0.heap.size v0 u → ArrAt u w.heap.size .u8 22 32 key) := Hid.mk (fun u hu => g0.kept hu)
        have HV : Hid (∀ u, Below v0.heap.size v0 u → Strs u (.slice (some p) (i + 1) c) (i + 1) ts) := Hid.mk (fun u hu => ((HS.out.below hB).below hu).take (by omega))
        refine wp_region3 (Below v0.heap.size v0) v0.heap.size
            ([] : List (Nat × Cont))
            [kv (.int .i64 (i : Int)), kv (.bool false), kv (.bool false), .val fun _ => True, .val fun _ => True, .val fun _ => True, .val fun _ => True, .val fun _ => True, .val fun _ => True, .val fun _ => True, .val fun _ => True, .val fun _ => True, .val fun _ => True, kv (.bool false)]
            [.none, .none, .none, .none, .none, .none, .none, .none, .none, .none, .none, .none, .none, .none]
            [some 42, some 43, some 44, some 45, some 46, some 47, some 48, some 49, some 50, some 51, some 52, some 53, some 54, some 55]
            [(9, .int .i64 (i : Int))]
            [[], [.slot 0], [.slot 1], [.slot 2], [.slot 2], [.slot 2], [.slot 2], [.slot 2], [.slot 2], [.slot 2], [.slot 2], [.slot 2], [.slot 2], [.slot 2]]
            [.slot 13] [42, 43, 44, 45, 46, 47, 48, 49, 50, 51, 52, 53, 54, 55]
            rfl (by kernel_rfl) ⟨rfl, trivial⟩ (Below.refl _ v0).drew (Nat.le_refl _) trivial trivial (below_G (Nat.le_refl _) trivial)
            ⟨
              -- 0
              (fun Q aq ww own hS hBg fr kn => .inl ⟨trivial, fun K hK => wp_value (exec_move rfl fr.1) (hK _ _ ⟨Touch.refl _ _, rfl⟩)⟩),
              -- 1
              (fun Q aq ww own hS hBg fr kn => .inl ⟨trivial, fun K hK => wp_value (exec_lssF rfl kn.1 rfl HL.out) (hK _ _ ⟨Touch.refl _ _, rfl⟩)⟩),
              -- 2
              (fun Q aq ww own hS hBg fr kn => .inl ⟨trivial, fun K hK => wp_value (exec_move rfl kn.1) (hK _ _ ⟨Touch.refl _ _, rfl⟩)⟩),
              -- 3
              (fun Q aq ww own hS hBg fr kn => .inr ⟨.inl kn.1, Touch.refl _ _, trivial⟩),
              -- 4
              (fun Q aq ww own hS hBg fr kn => .inr ⟨.inl kn.1, Touch.refl _ _, trivial⟩),
              -- 5
              (fun Q aq ww own hS hBg fr kn => .inr ⟨.inl kn.1, Touch.refl _ _, trivial⟩),
              -- 6
              (fun Q aq ww own hS hBg fr kn => .inr ⟨.inl kn.1, Touch.refl _ _, trivial⟩),
              -- 7
              (fun Q aq ww own hS hBg fr kn => .inr ⟨.inl kn.1, Touch.refl _ _, trivial⟩),
              -- 8
              (fun Q aq ww own hS hBg fr kn => .inr ⟨.inl kn.1, Touch.refl _ _, trivial⟩),
              -- 9
              (fun Q aq ww own hS hBg fr kn => .inr ⟨.inl kn.1, Touch.refl _ _, trivial⟩),
              -- 10
              (fun Q aq ww own hS hBg fr kn => .inr ⟨.inl kn.1, Touch.refl _ _, trivial⟩),
              -- 11
              (fun Q aq ww own hS hBg fr kn => .inr ⟨.inl kn.1, Touch.refl _ _, trivial⟩),
              -- 12
              (fun Q aq ww own hS hBg fr kn => .inr ⟨.inl kn.1, Touch.refl _ _, trivial⟩),
              -- 13
              (fun Q aq ww own hS hBg fr kn => .inl ⟨trivial, fun K hK => wp_value (exec_pickF (v := .bool false) rfl kn.1 rfl) (hK _ _ ⟨Touch.refl _ _, rfl⟩)⟩),
              trivial⟩ ?_
        intro vs own v5 hB5 hs5 kn inj
        clear inj hs5
        replace g0 := g0.kept hB5
        replace hM := hM.kept hB5
        obtain ⟨f5, m5, hO5⟩ := hO
        have hO : ∃ f m, MacN v5 bo other f m := ⟨f5, m5, hO5.kept hB5⟩
        replace hB := hB.trans (hB5.mono hB.size)
        have e55 : vs 55 = .bool false := kn.1
        clear kn hB5 hO5 HMB HG0 HV
        simp only [putAll, Act.put, List.setIfInBounds_toArray, List.set_cons_zero, List.set_cons_succ, e55]
        go_wp2_with fail
        go_roundg (n - (i + 1))
        case rel => exact ⟨i + 1, Hid.mk (by omega), by go_num, g0, hM, hO, hB⟩
        case measure => have := HI.out; omega
    · have hi2 : i = n := by omega
      subst hi2
      generalize gk = gz at *
      have hS2 := HS.out.below hB
      go_wp2_with fail
      refine (joined_run _ i ts wr hS2 (by omega) HJ.out).mono ?_
      rintro e u1 ⟨rfl, hb1⟩
      replace g0 := g0.kept hb1
      replace hM := hM.kept hb1
      replace hB := hB.trans (hb1.mono hB.size)
      clear hb1 hS2 hO
      go_wp2_with (refine ld_arr isArr32 g0 (by rfl) ?_)
      refine (New_run key (fun _ => 0) _ HK.out).mono ?_
      rintro e u2 ⟨bq, hbq, rfl, hQ, hb2⟩
      have hlm := hM.lt
      replace g0 := g0.kept hb2
      replace hM := hM.kept hb2
      replace hB := hB.trans (hb2.mono hB.size)
      clear hb2
      go_wp2_with fail
      have hsw := hB.size
      refine (Write_run bq key _ _ _ i ts u2 hQ (fun u ht => HS.out.below (belowT hB ht (by omega) (Nat.le_refl _))) (by omega)).mono ?_
      rintro e u3 ⟨rfl, hQ3, ht3⟩
      rw [cat0, Nat.zero_add] at hQ3
      replace hM := hM.touch ht3 (by omega)
      replace g0 := g0.touch ht3 (by omega)
      replace hB := belowT hB ht3 (by omega) (Nat.le_refl _)
      clear hQ ht3
      go_wp2_with fail
      refine (Write_run bq key _ _ _ 0 ts u3 hQ3 (fun u ht => ⟨none, 0, rfl, fun h => by omega⟩) (by decide)).mono ?_
      rintro e u4 ⟨rfl, hQ4, ht4⟩
      replace hM := hM.touch ht4 (by omega)
      replace g0 := g0.touch ht4 (by omega)
      replace hB := belowT hB ht4 (by omega) (Nat.le_refl _)
      replace hQ4 : MacN u4 bq key (txt (joinB ts i)) (joinB ts i).size := MacN.congr hQ4 (fun k hk => by
        have hk2 : k < (joinB ts i).size := by simpa [joinB] using hk
        unfold cat
        rw [if_pos hk2])
      clear hQ3 ht4
      go_wp2_with fail
      refine wp_gen (fun u => ArrAt u w.heap.size .u8 22 32 key ∧ MacN u bm key (txt (joinB ts i)) (joinB ts i).size ∧ MacN u bq key (txt (joinB ts i)) (joinB ts i).size ∧ Below w.heap.size w u) ⟨g0, hM, hQ4, hB⟩ ?_
      clear g0 hM hQ4 hB hsw hlm hbq
      rintro v0 ⟨g0, hM, hQ, hB⟩
      have HMB : Hid (∀ u, Below v0.heap.size v0 u → MacN u bm key (txt (joinB ts i)) (joinB ts i).size) := Hid.mk (fun u hu => hM.kept hu)
      have HQB : Hid (∀ u, Below v0.heap.size v0 u → MacN u bq key (txt (joinB ts i)) (joinB ts i).size) := Hid.mk (fun u hu => hQ.kept hu)
      have HG0 : Hid (∀ u, Below v0.heap.size v0 u → ArrAt u w.heap.size .u8 22 32 key) := Hid.mk (fun u hu => g0.kept hu)
      refine wp_region3 (Below v0.heap.size v0) v0.heap.size
          ([] : List (Nat × Cont))
          [kv (.pointer (some ⟨bm, 0, none⟩)), kv (.agg (WA .u8 16 (digN (markN key (txt (joinB ts i)) (joinB ts i).size)))), kv (.pointer (some ⟨bm, 0, none⟩)), kv (.agg (WA .u8 16 (digN (markN key (txt (joinB ts i)) (joinB ts i).size)))), kv (.bool true), kv (.bool true), kv (.pointer (some ⟨bm, 0, none⟩)), kv (.agg (WA .u8 16 (digN (markN key (txt (joinB ts i)) (joinB ts i).size)))), kv (.pointer (some ⟨bq, 0, none⟩)), kv (.agg (WA .u8 16 (digN (markN key (txt (joinB ts i)) (joinB ts i).size)))), kv (.bool true), kv (.bool true), kv (.bool true), kv (.pointer (some ⟨bq, 0, none⟩)), kv (.agg (WA .u8 16 (digN (markN key (txt (joinB ts i)) (joinB ts i).size)))), kv (.agg (WA .u8 32 key)), kv (.string (joinB ts i)), kv (.agg (WA .u8 16 (digN (markN key (txt (joinB ts i)) (joinB ts i).size)))), kv (.bool true), kv (.bool true), kv (.bool true), kv (.bool true), kv (.bool true), kv (.bool true)]
          [.none, .none, .none, .none, .none, .none, .none, .none, .none, .none, .none, .none, .none, .none, .none, .none, .none, .none, .none, .none, .none, .none, .none, .none]
          [some 67, some 68, some 69, some 70, some 71, some 72, some 73, some 74, some 75, some 76, some 77, some 78, some 79, some 80, some 81, some 82, some 83, some 84, some 85, some 86, some 87, some 88, some 89, some 6]
          [(7, .pointer (some ⟨bm, 0, none⟩)), (11, .pointer (some ⟨bq, 0, none⟩)), (3, .pointer (some ⟨w.heap.size, 0, none⟩)), (10, .string (joinB ts i))]
          [[], [.slot 0], [], [.slot 2], [.slot 1, .slot 3], [.slot 4], [.slot 5], [.slot 5, .slot 6], [.slot 5], [.slot 5, .slot 8], [.slot 5, .slot 7, .slot 9], [.slot 5, .slot 10], [.slot 11], [.slot 12], [.slot 12, .slot 13], [.slot 12], [.slot 12], [.slot 12, .slot 15, .slot 16], [.slot 12, .slot 14, .slot 17], [.slot 12, .slot 18], [.slot 19], [.slot 20], [.slot 20, .slot 21], [.slot 22]]
          [.slot 23] [67, 68, 69, 70, 71, 72, 73, 74, 75, 76, 77, 78, 79, 80, 81, 82, 83, 84, 85, 86, 87, 88, 89, 6]
          rfl (by kernel_rfl) ⟨rfl, rfl, rfl, rfl, trivial⟩ (Below.refl _ v0).drew (Nat.le_refl _) trivial trivial (below_G (Nat.le_refl _) trivial)
          ⟨
            -- 0
            (fun Q aq ww own hS hBg fr kn => .inl ⟨trivial, fun K hK => wp_value (exec_move rfl fr.1) (hK _ _ ⟨Touch.refl _ _, rfl⟩)⟩),
            -- 1
            (fun Q aq ww own hS hBg fr kn => .inl ⟨trivial, fun K hK => stepc enterSum rfl (args1 kn.1) (Sum_run bm key _ _ ww (HMB.out ww hS)) (fun w' hb => hK _ _ ⟨touch_below hb, rfl⟩)⟩),
            -- 2
            (fun Q aq ww own hS hBg fr kn => .inl ⟨trivial, fun K hK => wp_value (exec_move rfl fr.1) (hK _ _ ⟨Touch.refl _ _, rfl⟩)⟩),
            -- 3
            (fun Q aq ww own hS hBg fr kn => .inl ⟨trivial, fun K hK => stepc enterSum rfl (args1 kn.1) (Sum_run bm key _ _ ww (HMB.out ww hS)) (fun w' hb => hK _ _ ⟨touch_below hb, rfl⟩)⟩),
            -- 4
            (fun Q aq ww own hS hBg fr kn => .inl ⟨trivial, fun K hK => wp_value (eql_WA rfl Try.underlying23 eqG16 kn.1 kn.2.1) (hK _ _ ⟨Touch.refl _ _, rfl⟩)⟩),
            -- 5
            (fun Q aq ww own hS hBg fr kn => .inl ⟨trivial, fun K hK => wp_value (exec_move rfl kn.1) (hK _ _ ⟨Touch.refl _ _, rfl⟩)⟩),
            -- 6
            (fun Q aq ww own hS hBg fr kn => .inl ⟨kn.1, fun K hK => wp_value (exec_move rfl fr.1) (hK _ _ ⟨Touch.refl _ _, rfl⟩)⟩),
            -- 7
            (fun Q aq ww own hS hBg fr kn => .inl ⟨kn.1, fun K hK => stepc enterSum rfl (args1 kn.2.1) (Sum_run bm key _ _ ww (HMB.out ww hS)) (fun w' hb => hK _ _ ⟨touch_below hb, rfl⟩)⟩),
            -- 8
            (fun Q aq ww own hS hBg fr kn => .inl ⟨kn.1, fun K hK => wp_value (exec_move rfl fr.2.1) (hK _ _ ⟨Touch.refl _ _, rfl⟩)⟩),
            -- 9
            (fun Q aq ww own hS hBg fr kn => .inl ⟨kn.1, fun K hK => stepc enterSum rfl (args1 kn.2.1) (Sum_run bq key _ _ ww (HQB.out ww hS)) (fun w' hb => hK _ _ ⟨touch_below hb, rfl⟩)⟩),
            -- 10
            (fun Q aq ww own hS hBg fr kn => .inl ⟨kn.1, fun K hK => wp_value (eql_WA rfl Try.underlying23 eqG16 kn.2.1 kn.2.2.1) (hK _ _ ⟨Touch.refl _ _, rfl⟩)⟩),
            -- 11
            (fun Q aq ww own hS hBg fr kn => .inl ⟨trivial, fun K hK => wp_value (exec_pick rfl kn.1 kn.2.1) (hK _ _ ⟨Touch.refl _ _, rfl⟩)⟩),
            -- 12
            (fun Q aq ww own hS hBg fr kn => .inl ⟨trivial, fun K hK => wp_value (exec_move rfl kn.1) (hK _ _ ⟨Touch.refl _ _, rfl⟩)⟩),
            -- 13
            (fun Q aq ww own hS hBg fr kn => .inl ⟨kn.1, fun K hK => wp_value (exec_move rfl fr.2.1) (hK _ _ ⟨Touch.refl _ _, rfl⟩)⟩),
            -- 14
            (fun Q aq ww own hS hBg fr kn => .inl ⟨kn.1, fun K hK => stepc enterSum rfl (args1 kn.2.1) (Sum_run bq key _ _ ww (HQB.out ww hS)) (fun w' hb => hK _ _ ⟨touch_below hb, rfl⟩)⟩),
            -- 15
            (fun Q aq ww own hS hBg fr kn => .inl ⟨kn.1, fun K hK => wp_value (look_arr rfl isArr32 (HG0.out ww hS) fr.2.2.1) (hK _ _ ⟨Touch.refl _ _, rfl⟩)⟩),
            -- 16
            (fun Q aq ww own hS hBg fr kn => .inl ⟨kn.1, fun K hK => wp_value (exec_move rfl fr.2.2.2.1) (hK _ _ ⟨Touch.refl _ _, rfl⟩)⟩),
            -- 17
            (fun Q aq ww own hS hBg fr kn => .inl ⟨kn.1, fun K hK => stepc enterRTag rfl (args2 kn.2.1 kn.2.2.1) (rTag_run key (joinB ts i) ww HK.out HJ.out) (fun w' hb => hK _ _ ⟨touch_below hb, rfl⟩)⟩),
            -- 18
            (fun Q aq ww own hS hBg fr kn => .inl ⟨kn.1, fun K hK => wp_value (eql_WA rfl Try.underlying23 eqG16 kn.2.1 kn.2.2.1) (hK _ _ ⟨Touch.refl _ _, rfl⟩)⟩),
            -- 19
            (fun Q aq ww own hS hBg fr kn => .inl ⟨trivial, fun K hK => wp_value (exec_pick rfl kn.1 kn.2.1) (hK _ _ ⟨Touch.refl _ _, rfl⟩)⟩),
            -- 20
            (fun Q aq ww own hS hBg fr kn => .inl ⟨trivial, fun K hK => wp_value (exec_move rfl kn.1) (hK _ _ ⟨Touch.refl _ _, rfl⟩)⟩),
            -- 21
            (fun Q aq ww own hS hBg fr kn => .inl ⟨kn.1, fun K hK => stepc enterAwake rfl args0 (awake_run ww) (fun w' hb => hK _ _ ⟨touch_below hb, rfl⟩)⟩),
            -- 22
            (fun Q aq ww own hS hBg fr kn => .inl ⟨trivial, fun K hK => wp_value (exec_pick rfl kn.1 kn.2.1) (hK _ _ ⟨Touch.refl _ _, rfl⟩)⟩),
            -- 23
            (fun Q aq ww own hS hBg fr kn => .inl ⟨trivial, fun K hK => wp_value (exec_assign rfl kn.1) (hK _ _ ⟨Touch.refl _ _, rfl⟩)⟩),
            trivial⟩ ?_
      intro vs own v9 hB9 hs9 kn inj
      clear inj hs9
      have e6 : vs 6 = .bool true := kn.1
      clear kn
      simp only [putAll, Act.put, List.setIfInBounds_toArray, List.set_cons_zero, List.set_cons_succ]
      rw [e6]
      go_wp2_with fail
      go_ret
      exact ⟨rfl, hB.trans (hB9.mono hB.size)⟩
end Go.Proofs.Ytfbeclleeehaaaa
