/-
  Own text. The walk of the law BlakeCuts.
-/
import Derived.Test.YtcefoonflpofgaaDoorV2
namespace Go.Proofs.YtcefoonflpofgaaDoor
open Go.RowKit Go.Proofs
theorem enterSumc (args : Array Value) (w : World) : (callFunc 8 args).run Tryd.prog w = .ok (.enter 8 args) w := by kernel_rfl
def three3 (s t u : ByteArray) : Nat → ByteArray
  | 0 => s
  | 1 => t
  | _ => u
theorem join3 (s t u : ByteArray) : joinB (three3 s t u) 3 = s ++ t ++ u := by simp [joinB, three3]
theorem run_bs3 (s t u : ByteArray) (w : World) : (Instr.buildSlice 22 3 #[(0, .string s), (1, .string t), (2, .string u)]).run Tryd.prog w = .ok (.slice (some ⟨w.heap.size, 0, none⟩) 3 3) (w.alloc (.cells #[.string s, .string t, .string u] 9)) := by simp [go_sem]
theorem act_bs3 {o : Oper} {a : Act} {w : World} {K : Act → World → Prop} {Q : Exit → Act → World → Prop} {x y z : Operand} (ho : o.op = .buildSlice 22 3 #[(0, x), (1, y), (2, z)]) {s t u : ByteArray} (hx : a.eval x = .string s) (hy : a.eval y = .string t) (hz : a.eval z = .string u)
    (h : ∀ v, v.heap[w.heap.size]? = some (.cells #[.string s, .string t, .string u] 9 (0, 0)) → Below w.heap.size w v → K (a.put o.dst (.slice (some ⟨w.heap.size, 0, none⟩) 3 3)) v) : o.wp Tryd.prog a w K Q := by
  have hr := run_bs3 s t u w
  unfold Oper.wp execOp
  simp only [ho, List.map_toArray, List.map_cons, List.map_nil, hx, hy, hz, Sem.run_bind, hr, Result.andThen_ok, Sem.run_pure, Oper.upon]
  exact h _ (heap_alloc_new w _) ((Below.refl _ _).alloc (Nat.le_refl _) _)
theorem strsC3 {w : World} {b : Nat} {s t u : ByteArray} (h : ContOK (fun ob => ob = .cells #[.string s, .string t, .string u] 9 (0, 0)) w b) : Strs w (.slice (some ⟨b, 0, none⟩) 3 3) 3 (three3 s t u) := by
  obtain ⟨ob, hg, rfl⟩ := h
  exact ⟨_, _, rfl, fun _ => ⟨_, rfl, fun j hj => by
    rw [Addr.add_lit, cell_of_row w b _ _ _ _ hg]
    match j, hj with
    | 0, _ => rfl
    | 1, _ => rfl
    | 2, _ => rfl⟩⟩
theorem cut3 (text : ByteArray) (i : Nat) (h : i ≤ text.size) : (text.extract 0 i) ++ ⟨#[]⟩ ++ (text.extract i text.size) = text := by
  have e : (text.extract 0 i) ++ (⟨#[]⟩ : ByteArray) = (text.extract 0 i) := by
    show (text.extract 0 i) ++ ByteArray.empty = _
    simp
  rw [e, app_cut text i h]
set_option maxHeartbeats 6400000 in
set_option maxRecDepth 100000 in
theorem cuts_walk (key text : ByteArray) (w : World) (hTw : Tabs w) (hk : key.size ≤ 140737488351232) (ht : text.size ≤ 140737488351232) :
    Calls Tryd.prog 7 #[.string key, .string text] w fun e w' => e = .returned (.bool true) ∧ Below w.heap.size w w' := by
  have h2 := hTw.two
  have HTW : Hid (∀ u, Below w.heap.size w u → Tabs u) := Hid.mk (fun u hu => hTw.below hu h2)
  have HS1 : Hid (∀ sv u, Tabs u → Strs u sv 1 (one1 text) → Calls Tryd.prog 8 #[sv] u fun e w' => e = .returned (.agg (WA .u8 32 (sumF text))) ∧ Below u.heap.size u w') := Hid.mk (fun sv u hT hs => by
    have h := Sum_run sv 1 _ u hT hs (by omega) (by rw [join1]; omega)
    rw [join1] at h
    exact h)
  have HSK : Hid (∀ sv u, Tabs u → Strs u sv 1 (one1 key) → Calls Tryd.prog 8 #[sv] u fun e w' => e = .returned (.agg (WA .u8 32 (sumF key))) ∧ Below u.heap.size u w') := Hid.mk (fun sv u hT hs => by
    have h := Sum_run sv 1 _ u hT hs (by omega) (by rw [join1]; omega)
    rw [join1] at h
    exact h)
  have HM1 : Hid (∀ sv u, Tabs u → Strs u sv 1 (one1 text) → Calls Tryd.prog 14 #[.string key, sv] u fun e w' => e = .returned (.agg (WA .u8 32 (macF key text))) ∧ Below u.heap.size u w') := Hid.mk (fun sv u hT hs => by
    have h := MAC_run key sv 1 _ u hT (by omega) hs (by omega) (by rw [join1]; omega)
    rw [join1] at h
    exact h)
  have HS3 : Hid (∀ i sv u, i ≤ text.size → Tabs u → Strs u sv 3 (three3 (text.extract 0 i) ⟨#[]⟩ (text.extract i text.size)) → Calls Tryd.prog 8 #[sv] u fun e w' => e = .returned (.agg (WA .u8 32 (sumF text))) ∧ Below u.heap.size u w') := Hid.mk (fun i sv u hi hT hs => by
    have h := Sum_run sv 3 _ u hT hs (by omega) (by rw [join3, cut3 text i hi]; omega)
    rw [join3, cut3 text i hi] at h
    exact h)
  have HM2 : Hid (∀ i sv u, i ≤ text.size → Tabs u → Strs u sv 2 (two2 (text.extract 0 i) (text.extract i text.size)) → Calls Tryd.prog 14 #[.string key, sv] u fun e w' => e = .returned (.agg (WA .u8 32 (macF key text))) ∧ Below u.heap.size u w') := Hid.mk (fun i sv u hi hT hs => by
    have h := MAC_run key sv 2 _ u hT (by omega) hs (by omega) (by rw [join2, app_cut text i hi]; omega)
    rw [join2, app_cut text i hi] at h
    exact h)
  have HKY : Hid (∀ sv u, Tabs u → Strs u sv 1 (one1 text) → Calls Tryd.prog 12 #[.int .i64 32, .string ⟨#[]⟩, sv] u fun e w' => e = .returned (.tuple #[.string (mkS 32 (sumF text)), .int .i64 0]) ∧ Below u.heap.size u w') := Hid.mk (fun sv u hT hs => by
    have h := Keyed_run 32 ⟨#[]⟩ sv 1 _ u hT hs (by omega) (by rw [join1]; omega)
    rw [join1] at h
    have e : keyedT 32 ⟨#[]⟩ text = (mkS 32 (sumF text), 0) := by
      unfold keyedT
      rw [if_pos ⟨by omega, by omega, by show (0 : Nat) ≤ 32; omega⟩]
      show (hashT 32 ⟨#[]⟩ text, (0 : Int)) = _
      rw [hash_sum]
    rw [e] at h
    exact h)
  have HMF : Hid (sumF (mkS 64 (padK (keyM key) 92) ++ mkS 32 (sumF (mkS 64 (padK (keyM key) 54) ++ text))) = macF key text) := Hid.mk rfl
  have HAB := Hid.mk (sumF_b text)
  generalize macF key text = M at *
  generalize sumF text = A at *
  clear hTw
  go_enter Tryd.func7, Tryd.ntmps7
  go_wp2_with (refine wl_bs1 (by rfl) ?_; intro v1 s1 hb1 hz1; refine Hid.out ?_)
  have hB := hb1
  clear hb1 hz1
  refine Hid.mk ?_
  go_wp2_with fail
  refine (HS1.out _ _ (HTW.out _ hB) s1).mono ?_
  rintro e v2 ⟨rfl, hb2⟩
  replace hB := hB.trans (hb2.mono hB.size)
  clear hb2 s1
  have gn := fun o (ho : o = Obj.cells (WA .u8 32 fun _ => 0) 23 (0, 0)) => (by rw [ho]; exact heap_alloc_new v2 _ : ArrAt (v2.alloc o) v2.heap.size .u8 23 32 (fun _ => 0))
  have HBS := Hid.mk hB.size
  go_wp2_with (refine st_arr isArr32 (gn _ rfl) (by rfl) (by rfl) ?_; intro vk g5 ok; refine Hid.out ?_)
  replace hB := (hB.alloc HBS.out _).trans (ok.below HBS.out)
  have hb5w : w.heap.size ≤ v2.heap.size := HBS.out
  clear ok gn HBS
  generalize v2.heap.size = b5 at *
  refine Hid.mk ?_
  go_wp2_with (refine wl_bs1 (by rfl) ?_; intro v3 s3 hb3 hz3; refine Hid.out ?_)
  replace g5 := g5.kept hb3
  replace hB := hB.trans (hb3.mono hB.size)
  clear hb3 hz3
  refine Hid.mk ?_
  go_wp2_with fail
  refine (HM1.out _ _ (HTW.out _ hB) s3).mono ?_
  rintro e v4 ⟨rfl, hb4⟩
  replace g5 := g5.kept hb4
  replace hB := hB.trans (hb4.mono hB.size)
  clear hb4 s3 HM1 HS1
  have gn := fun o (ho : o = Obj.cells (WA .u8 32 fun _ => 0) 23 (0, 0)) => (by rw [ho]; exact heap_alloc_new v4 _ : ArrAt (v4.alloc o) v4.heap.size .u8 23 32 (fun _ => 0))
  have HBS := Hid.mk hB.size
  have hzg5 := g5.lt
  go_wp2_with (refine st_arr isArr32 (gn _ rfl) (by rfl) (by rfl) ?_; intro vl g6 ok; refine Hid.out ?_)
  replace hB := (hB.alloc HBS.out _).trans (ok.below HBS.out)
  have hb6w : w.heap.size ≤ v4.heap.size := HBS.out
  replace g5 := (g5.alloc _).only ok (by omega)
  clear ok gn HBS
  generalize v4.heap.size = b6 at *
  refine Hid.mk ?_
  have h56 : b5 < b6 := hzg5
  clear hzg5
  go_wp2_with fail
  go_loopg [7] (min text.size 140 + 1) (fun gm iv v => ∃ i : Nat, Hid (gm + i = min text.size 140 + 1) ∧ iv = .int .i64 (i : Int) ∧ ArrAt v b5 .u8 23 32 A ∧ ArrAt v b6 .u8 23 32 M ∧ Below w.heap.size w v)
  case atStart => exact ⟨0, Hid.mk rfl, rfl, g5, g6, hB⟩
  case round =>
    clear g5 g6 hB
    obtain ⟨i, HI, rfl, g5, g6, hB⟩ := hrel
    by_cases hi1 : i ≤ text.size
    · have hi1I : (i : Int) ≤ (text.size : Int) := by omega
      by_cases hi2 : i ≤ 140
      · have hi2I : (i : Int) ≤ 140 := by omega
        have HIT := Hid.mk hi1
        by_cases h20 : i < 20
        · have HL20 : Hid (decide (i < 20) = true) := Hid.mk (decide_eq_true h20)
          go_wp2_with fail
          refine wp_gen (fun v => ArrAt v b5 .u8 23 32 A ∧ ArrAt v b6 .u8 23 32 M ∧ Below w.heap.size w v) ⟨g5, g6, hB⟩ ?_
          clear g5 g6 hB
          rintro v0 ⟨g5, g6, hB⟩
          have HG5 : Hid (∀ u, Below v0.heap.size v0 u → ArrAt u b5 .u8 23 32 A) := Hid.mk (fun u hu => g5.kept hu)
          have HG6 : Hid (∀ u, Below v0.heap.size v0 u → ArrAt u b6 .u8 23 32 M) := Hid.mk (fun u hu => g6.kept hu)
          have HT : Hid (∀ u, Below v0.heap.size v0 u → Tabs u) := Hid.mk (fun u hu => HTW.out u (hB.trans (hu.mono hB.size)))
          refine wp_region3 (Below v0.heap.size v0) v0.heap.size
              ([] : List (Nat × Cont))
              [kv (.string text), kv (.int .i64 (i : Int)), kv (.string (text.extract 0 i)), kv (.string text), kv (.int .i64 (i : Int)), kv (.string (text.extract i text.size)), .new (slTo 3) ⟨fun ob => ob = .cells #[.string (text.extract 0 i), .string ⟨#[]⟩, .string (text.extract i text.size)] 9 (0, 0), []⟩, kv (.agg (WA .u8 32 A)), kv (.agg (WA .u8 32 A)), kv (.bool false), kv (.bool false), kv (.int .i64 (i : Int)), kv (.bool true), kv (.bool true), kv (.string key), kv (.string text), kv (.int .i64 (i : Int)), kv (.string (text.extract 0 i)), kv (.string text), kv (.int .i64 (i : Int)), kv (.string (text.extract i text.size)), .new (slTo 2) ⟨fun ob => ob = .cells #[.string (text.extract 0 i), .string (text.extract i text.size)] 9 (0, 0), []⟩, kv (.agg (WA .u8 32 M)), kv (.agg (WA .u8 32 M)), kv (.bool false), kv (.bool false), kv (.bool false)]
              [.none, .none, .none, .none, .none, .none, .none, .none, .none, .none, .none, .none, .none, .none, .none, .none, .none, .none, .none, .none, .none, .none, .none, .none, .none, .none, .none]
              [some 33, some 34, some 35, some 36, some 37, some 38, some 39, some 40, some 41, some 42, some 43, some 44, some 45, some 46, some 47, some 48, some 49, some 50, some 51, some 52, some 53, some 54, some 55, some 56, some 57, some 58, some 59]
              [(1, .string text), (7, .int .i64 (i : Int)), (5, .pointer (some ⟨b5, 0, none⟩)), (6, .pointer (some ⟨b6, 0, none⟩)), (0, .string key)]
              [[], [], [.slot 0, .slot 1], [], [], [.slot 3, .slot 4], [.slot 2, .slot 5], [.slot 6, .cont 6 0], [], [.slot 7, .slot 8], [.slot 9], [.slot 10], [.slot 10, .slot 11], [.slot 10, .slot 12], [.slot 13], [.slot 13], [.slot 13], [.slot 13, .slot 15, .slot 16], [.slot 13], [.slot 13], [.slot 13, .slot 18, .slot 19], [.slot 13, .slot 17, .slot 20], [.slot 13, .slot 14, .slot 21, .cont 21 0], [.slot 13], [.slot 13, .slot 22, .slot 23], [.slot 10, .slot 13, .slot 24], [.slot 10, .slot 25]]
              [.slot 26] [33, 34, 35, 36, 37, 38, 39, 40, 41, 42, 43, 44, 45, 46, 47, 48, 49, 50, 51, 52, 53, 54, 55, 56, 57, 58, 59]
              rfl (by kernel_rfl) ⟨rfl, rfl, rfl, rfl, rfl, trivial⟩ (Below.refl _ v0).drew (Nat.le_refl _) trivial trivial (below_G (Nat.le_refl _) trivial)
              ⟨
                -- 0
                (fun Q aq ww own hS hBg fr kn => .inl ⟨trivial, fun K hK => wp_value (exec_move rfl fr.1) (hK _ _ ⟨Touch.refl _ _, rfl⟩)⟩),
                -- 1
                (fun Q aq ww own hS hBg fr kn => .inl ⟨trivial, fun K hK => wp_value (exec_move rfl fr.2.1) (hK _ _ ⟨Touch.refl _ _, rfl⟩)⟩),
                -- 2
                (fun Q aq ww own hS hBg fr kn => .inl ⟨trivial, fun K hK => wp_value (exec_slH rfl kn.1 kn.2.1 (strH text i ww HIT.out)) (hK _ _ ⟨Touch.refl _ _, rfl⟩)⟩),
                -- 3
                (fun Q aq ww own hS hBg fr kn => .inl ⟨trivial, fun K hK => wp_value (exec_move rfl fr.1) (hK _ _ ⟨Touch.refl _ _, rfl⟩)⟩),
                -- 4
                (fun Q aq ww own hS hBg fr kn => .inl ⟨trivial, fun K hK => wp_value (exec_move rfl fr.2.1) (hK _ _ ⟨Touch.refl _ _, rfl⟩)⟩),
                -- 5
                (fun Q aq ww own hS hBg fr kn => .inl ⟨trivial, fun K hK => wp_value (exec_slL rfl kn.1 kn.2.1 (strL text i ww HIT.out)) (hK _ _ ⟨Touch.refl _ _, rfl⟩)⟩),
                -- 6
                (fun Q aq ww own hS hBg fr kn => .inl ⟨trivial, fun K hK => act_bs3 rfl kn.1 rfl kn.2.1 (fun v hg hb => hK _ _ ⟨touch_below hb, _, Nat.le_refl _, rfl, ⟨_, hg, rfl⟩⟩)⟩),
                -- 7
                (fun Q aq ww own hS hBg fr kn => .inl ⟨trivial, fun K hK => stepc enterSumc rfl (args1 kn.1.1) (HS3.out i _ ww HIT.out (HT.out ww hS) (strsC3 kn.2.1)) (fun w' hb => hK _ _ ⟨touch_below hb, rfl⟩)⟩),
                -- 8
                (fun Q aq ww own hS hBg fr kn => .inl ⟨trivial, fun K hK => wp_value (look_arr rfl isArr32 (HG5.out ww hS) fr.2.2.1) (hK _ _ ⟨Touch.refl _ _, rfl⟩)⟩),
                -- 9
                (fun Q aq ww own hS hBg fr kn => .inl ⟨trivial, fun K hK => wp_value (neq_WA rfl Tryd.underlying23 eqG32 kn.1 kn.2.1) (hK _ _ ⟨Touch.refl _ _, rfl⟩)⟩),
                -- 10
                (fun Q aq ww own hS hBg fr kn => .inl ⟨trivial, fun K hK => wp_value (exec_move rfl kn.1) (hK _ _ ⟨Touch.refl _ _, rfl⟩)⟩),
                -- 11
                (fun Q aq ww own hS hBg fr kn => .inl ⟨kn.1, fun K hK => wp_value (exec_move rfl fr.2.1) (hK _ _ ⟨Touch.refl _ _, rfl⟩)⟩),
                -- 12
                (fun Q aq ww own hS hBg fr kn => .inl ⟨kn.1, fun K hK => wp_value (exec_lssN (m := i) (n := 20) rfl kn.2.1 rfl HL20.out) (hK _ _ ⟨Touch.refl _ _, rfl⟩)⟩),
                -- 13
                (fun Q aq ww own hS hBg fr kn => .inl ⟨kn.1, fun K hK => wp_value (exec_move rfl kn.2.1) (hK _ _ ⟨Touch.refl _ _, rfl⟩)⟩),
                -- 14
                (fun Q aq ww own hS hBg fr kn => .inl ⟨kn.1, fun K hK => wp_value (exec_move rfl fr.2.2.2.2.1) (hK _ _ ⟨Touch.refl _ _, rfl⟩)⟩),
                -- 15
                (fun Q aq ww own hS hBg fr kn => .inl ⟨kn.1, fun K hK => wp_value (exec_move rfl fr.1) (hK _ _ ⟨Touch.refl _ _, rfl⟩)⟩),
                -- 16
                (fun Q aq ww own hS hBg fr kn => .inl ⟨kn.1, fun K hK => wp_value (exec_move rfl fr.2.1) (hK _ _ ⟨Touch.refl _ _, rfl⟩)⟩),
                -- 17
                (fun Q aq ww own hS hBg fr kn => .inl ⟨kn.1, fun K hK => wp_value (exec_slH rfl kn.2.1 kn.2.2.1 (strH text i ww HIT.out)) (hK _ _ ⟨Touch.refl _ _, rfl⟩)⟩),
                -- 18
                (fun Q aq ww own hS hBg fr kn => .inl ⟨kn.1, fun K hK => wp_value (exec_move rfl fr.1) (hK _ _ ⟨Touch.refl _ _, rfl⟩)⟩),
                -- 19
                (fun Q aq ww own hS hBg fr kn => .inl ⟨kn.1, fun K hK => wp_value (exec_move rfl fr.2.1) (hK _ _ ⟨Touch.refl _ _, rfl⟩)⟩),
                -- 20
                (fun Q aq ww own hS hBg fr kn => .inl ⟨kn.1, fun K hK => wp_value (exec_slL rfl kn.2.1 kn.2.2.1 (strL text i ww HIT.out)) (hK _ _ ⟨Touch.refl _ _, rfl⟩)⟩),
                -- 21
                (fun Q aq ww own hS hBg fr kn => .inl ⟨kn.1, fun K hK => act_bs2 rfl kn.2.1 kn.2.2.1 (fun v hg hb => hK _ _ ⟨touch_below hb, _, Nat.le_refl _, rfl, ⟨_, hg, rfl⟩⟩)⟩),
                -- 22
                (fun Q aq ww own hS hBg fr kn => .inl ⟨kn.1, fun K hK => stepc enterMACc rfl (args2 kn.2.1 kn.2.2.1.1) (HM2.out i _ ww HIT.out (HT.out ww hS) (strsC2 kn.2.2.2.1)) (fun w' hb => hK _ _ ⟨touch_below hb, rfl⟩)⟩),
                -- 23
                (fun Q aq ww own hS hBg fr kn => .inl ⟨kn.1, fun K hK => wp_value (look_arr rfl isArr32 (HG6.out ww hS) fr.2.2.2.1) (hK _ _ ⟨Touch.refl _ _, rfl⟩)⟩),
                -- 24
                (fun Q aq ww own hS hBg fr kn => .inl ⟨kn.1, fun K hK => wp_value (neq_WA rfl Tryd.underlying23 eqG32 kn.2.1 kn.2.2.1) (hK _ _ ⟨Touch.refl _ _, rfl⟩)⟩),
                -- 25
                (fun Q aq ww own hS hBg fr kn => .inl ⟨kn.1, fun K hK => wp_value (exec_pick rfl kn.2.1 kn.2.2.1) (hK _ _ ⟨Touch.refl _ _, rfl⟩)⟩),
                -- 26
                (fun Q aq ww own hS hBg fr kn => .inl ⟨trivial, fun K hK => wp_value (exec_pickF rfl kn.1 kn.2.1) (hK _ _ ⟨Touch.refl _ _, rfl⟩)⟩),
                trivial⟩ ?_
          intro vs own v9 hB9 hs9 kn inj
          clear inj hs9 HG5 HG6 HT
          have e59 : vs 59 = .bool false := kn.1
          clear kn
          replace g5 := g5.kept hB9
          replace g6 := g6.kept hB9
          replace hB := hB.trans (hB9.mono hB.size)
          clear hB9
          simp only [putAll, Act.put, List.setIfInBounds_toArray, List.set_cons_zero, List.set_cons_succ, e59]
          go_wp2_with fail
          go_roundg (min text.size 140 + 1 - (i + 1))
          case rel => exact ⟨i + 1, Hid.mk (by have := HI.out; omega), by go_num, g5, g6, hB⟩
          case measure => have := HI.out; omega
        · have HL20 : Hid (decide (i < 20) = false) := Hid.mk (decide_eq_false h20)
          go_wp2_with fail
          refine wp_gen (fun v => ArrAt v b5 .u8 23 32 A ∧ ArrAt v b6 .u8 23 32 M ∧ Below w.heap.size w v) ⟨g5, g6, hB⟩ ?_
          clear g5 g6 hB
          rintro v0 ⟨g5, g6, hB⟩
          have HG5 : Hid (∀ u, Below v0.heap.size v0 u → ArrAt u b5 .u8 23 32 A) := Hid.mk (fun u hu => g5.kept hu)
          have HG6 : Hid (∀ u, Below v0.heap.size v0 u → ArrAt u b6 .u8 23 32 M) := Hid.mk (fun u hu => g6.kept hu)
          have HT : Hid (∀ u, Below v0.heap.size v0 u → Tabs u) := Hid.mk (fun u hu => HTW.out u (hB.trans (hu.mono hB.size)))
          refine wp_region3 (Below v0.heap.size v0) v0.heap.size
              ([] : List (Nat × Cont))
              [kv (.string text), kv (.int .i64 (i : Int)), kv (.string (text.extract 0 i)), kv (.string text), kv (.int .i64 (i : Int)), kv (.string (text.extract i text.size)), .new (slTo 3) ⟨fun ob => ob = .cells #[.string (text.extract 0 i), .string ⟨#[]⟩, .string (text.extract i text.size)] 9 (0, 0), []⟩, kv (.agg (WA .u8 32 A)), kv (.agg (WA .u8 32 A)), kv (.bool false), kv (.bool false), kv (.int .i64 (i : Int)), kv (.bool false), kv (.bool false), .val fun _ => True, .val fun _ => True, .val fun _ => True, .val fun _ => True, .val fun _ => True, .val fun _ => True, .val fun _ => True, .val fun _ => True, .val fun _ => True, .val fun _ => True, .val fun _ => True, kv (.bool false), kv (.bool false)]
              [.none, .none, .none, .none, .none, .none, .none, .none, .none, .none, .none, .none, .none, .none, .none, .none, .none, .none, .none, .none, .none, .none, .none, .none, .none, .none, .none]
              [some 33, some 34, some 35, some 36, some 37, some 38, some 39, some 40, some 41, some 42, some 43, some 44, some 45, some 46, some 47, some 48, some 49, some 50, some 51, some 52, some 53, some 54, some 55, some 56, some 57, some 58, some 59]
              [(1, .string text), (7, .int .i64 (i : Int)), (5, .pointer (some ⟨b5, 0, none⟩)), (6, .pointer (some ⟨b6, 0, none⟩)), (0, .string key)]
              [[], [], [.slot 0, .slot 1], [], [], [.slot 3, .slot 4], [.slot 2, .slot 5], [.slot 6, .cont 6 0], [], [.slot 7, .slot 8], [.slot 9], [.slot 10], [.slot 10, .slot 11], [.slot 10, .slot 12], [.slot 13], [.slot 13], [.slot 13], [.slot 13], [.slot 13], [.slot 13], [.slot 13], [.slot 13], [.slot 13], [.slot 13], [.slot 13], [.slot 10, .slot 13], [.slot 10, .slot 25]]
              [.slot 26] [33, 34, 35, 36, 37, 38, 39, 40, 41, 42, 43, 44, 45, 46, 47, 48, 49, 50, 51, 52, 53, 54, 55, 56, 57, 58, 59]
              rfl (by kernel_rfl) ⟨rfl, rfl, rfl, rfl, rfl, trivial⟩ (Below.refl _ v0).drew (Nat.le_refl _) trivial trivial (below_G (Nat.le_refl _) trivial)
              ⟨
                -- 0
                (fun Q aq ww own hS hBg fr kn => .inl ⟨trivial, fun K hK => wp_value (exec_move rfl fr.1) (hK _ _ ⟨Touch.refl _ _, rfl⟩)⟩),
                -- 1
                (fun Q aq ww own hS hBg fr kn => .inl ⟨trivial, fun K hK => wp_value (exec_move rfl fr.2.1) (hK _ _ ⟨Touch.refl _ _, rfl⟩)⟩),
                -- 2
                (fun Q aq ww own hS hBg fr kn => .inl ⟨trivial, fun K hK => wp_value (exec_slH rfl kn.1 kn.2.1 (strH text i ww HIT.out)) (hK _ _ ⟨Touch.refl _ _, rfl⟩)⟩),
                -- 3
                (fun Q aq ww own hS hBg fr kn => .inl ⟨trivial, fun K hK => wp_value (exec_move rfl fr.1) (hK _ _ ⟨Touch.refl _ _, rfl⟩)⟩),
                -- 4
                (fun Q aq ww own hS hBg fr kn => .inl ⟨trivial, fun K hK => wp_value (exec_move rfl fr.2.1) (hK _ _ ⟨Touch.refl _ _, rfl⟩)⟩),
                -- 5
                (fun Q aq ww own hS hBg fr kn => .inl ⟨trivial, fun K hK => wp_value (exec_slL rfl kn.1 kn.2.1 (strL text i ww HIT.out)) (hK _ _ ⟨Touch.refl _ _, rfl⟩)⟩),
                -- 6
                (fun Q aq ww own hS hBg fr kn => .inl ⟨trivial, fun K hK => act_bs3 rfl kn.1 rfl kn.2.1 (fun v hg hb => hK _ _ ⟨touch_below hb, _, Nat.le_refl _, rfl, ⟨_, hg, rfl⟩⟩)⟩),
                -- 7
                (fun Q aq ww own hS hBg fr kn => .inl ⟨trivial, fun K hK => stepc enterSumc rfl (args1 kn.1.1) (HS3.out i _ ww HIT.out (HT.out ww hS) (strsC3 kn.2.1)) (fun w' hb => hK _ _ ⟨touch_below hb, rfl⟩)⟩),
                -- 8
                (fun Q aq ww own hS hBg fr kn => .inl ⟨trivial, fun K hK => wp_value (look_arr rfl isArr32 (HG5.out ww hS) fr.2.2.1) (hK _ _ ⟨Touch.refl _ _, rfl⟩)⟩),
                -- 9
                (fun Q aq ww own hS hBg fr kn => .inl ⟨trivial, fun K hK => wp_value (neq_WA rfl Tryd.underlying23 eqG32 kn.1 kn.2.1) (hK _ _ ⟨Touch.refl _ _, rfl⟩)⟩),
                -- 10
                (fun Q aq ww own hS hBg fr kn => .inl ⟨trivial, fun K hK => wp_value (exec_move rfl kn.1) (hK _ _ ⟨Touch.refl _ _, rfl⟩)⟩),
                -- 11
                (fun Q aq ww own hS hBg fr kn => .inl ⟨kn.1, fun K hK => wp_value (exec_move rfl fr.2.1) (hK _ _ ⟨Touch.refl _ _, rfl⟩)⟩),
                -- 12
                (fun Q aq ww own hS hBg fr kn => .inl ⟨kn.1, fun K hK => wp_value (exec_lssN (m := i) (n := 20) rfl kn.2.1 rfl HL20.out) (hK _ _ ⟨Touch.refl _ _, rfl⟩)⟩),
                -- 13
                (fun Q aq ww own hS hBg fr kn => .inl ⟨kn.1, fun K hK => wp_value (exec_move rfl kn.2.1) (hK _ _ ⟨Touch.refl _ _, rfl⟩)⟩),
                -- 14
                (fun Q aq ww own hS hBg fr kn => .inr ⟨.inl kn.1, Touch.refl _ _, trivial⟩),
                -- 15
                (fun Q aq ww own hS hBg fr kn => .inr ⟨.inl kn.1, Touch.refl _ _, trivial⟩),
                -- 16
                (fun Q aq ww own hS hBg fr kn => .inr ⟨.inl kn.1, Touch.refl _ _, trivial⟩),
                -- 17
                (fun Q aq ww own hS hBg fr kn => .inr ⟨.inl kn.1, Touch.refl _ _, trivial⟩),
                -- 18
                (fun Q aq ww own hS hBg fr kn => .inr ⟨.inl kn.1, Touch.refl _ _, trivial⟩),
                -- 19
                (fun Q aq ww own hS hBg fr kn => .inr ⟨.inl kn.1, Touch.refl _ _, trivial⟩),
                -- 20
                (fun Q aq ww own hS hBg fr kn => .inr ⟨.inl kn.1, Touch.refl _ _, trivial⟩),
                -- 21
                (fun Q aq ww own hS hBg fr kn => .inr ⟨.inl kn.1, Touch.refl _ _, trivial⟩),
                -- 22
                (fun Q aq ww own hS hBg fr kn => .inr ⟨.inl kn.1, Touch.refl _ _, trivial⟩),
                -- 23
                (fun Q aq ww own hS hBg fr kn => .inr ⟨.inl kn.1, Touch.refl _ _, trivial⟩),
                -- 24
                (fun Q aq ww own hS hBg fr kn => .inr ⟨.inl kn.1, Touch.refl _ _, trivial⟩),
                -- 25
                (fun Q aq ww own hS hBg fr kn => .inl ⟨kn.1, fun K hK => wp_value (exec_pickF (v := .bool false) rfl kn.2.1 rfl) (hK _ _ ⟨Touch.refl _ _, rfl⟩)⟩),
                -- 26
                (fun Q aq ww own hS hBg fr kn => .inl ⟨trivial, fun K hK => wp_value (exec_pickF rfl kn.1 kn.2.1) (hK _ _ ⟨Touch.refl _ _, rfl⟩)⟩),
                trivial⟩ ?_
          intro vs own v9 hB9 hs9 kn inj
          clear inj hs9 HG5 HG6 HT
          have e59 : vs 59 = .bool false := kn.1
          clear kn
          replace g5 := g5.kept hB9
          replace g6 := g6.kept hB9
          replace hB := hB.trans (hB9.mono hB.size)
          clear hB9
          simp only [putAll, Act.put, List.setIfInBounds_toArray, List.set_cons_zero, List.set_cons_succ, e59]
          go_wp2_with fail
          go_roundg (min text.size 140 + 1 - (i + 1))
          case rel => exact ⟨i + 1, Hid.mk (by have := HI.out; omega), by go_num, g5, g6, hB⟩
          case measure => have := HI.out; omega
      · have hi2I : ¬ (i : Int) ≤ 140 := by omega
        clear HS3 HM2 HI
        by_cases hl : 64 < key.size
        · have hlI : (64 : Int) < (key.size : Int) := by omega
          go_wp2_with (refine wl_bs1 (by rfl) ?_; intro v1 s1 hb1 hz1; refine Hid.out ?_)
          replace g5 := g5.kept hb1
          replace g6 := g6.kept hb1
          replace hB := hB.trans (hb1.mono hB.size)
          clear hb1 hz1
          refine Hid.mk ?_
          go_wp2_with fail
          refine (HKY.out _ _ (HTW.out _ hB) s1).mono ?_
          rintro e v2 ⟨rfl, hb2⟩
          replace g5 := g5.kept hb2
          replace g6 := g6.kept hb2
          replace hB := hB.trans (hb2.mono hB.size)
          clear hb2 s1
          go_wp2_with (refine wl_bs1 (by rfl) ?_; intro v4 s4 hb4 hz4; refine Hid.out ?_)
          replace g5 := g5.kept hb4
          replace g6 := g6.kept hb4
          replace hB := hB.trans (hb4.mono hB.size)
          clear hb4 hz4
          refine Hid.mk ?_
          go_wp2_with fail
          refine (HSK.out _ _ (HTW.out _ hB) s4).mono ?_
          rintro e v5 ⟨rfl, hb5⟩
          replace g5 := g5.kept hb5
          replace g6 := g6.kept hb5
          replace hB := hB.trans (hb5.mono hB.size)
          clear hb5 s4
          have gn := fun o (ho : o = Obj.cells (WA .u8 32 fun _ => 0) 23 (0, 0)) => (by rw [ho]; exact heap_alloc_new v5 _ : ArrAt (v5.alloc o) v5.heap.size .u8 23 32 (fun _ => 0))
          have HBS := Hid.mk hB.size
          have hzg5 := g5.lt
          have hzg6 := g6.lt
          go_wp2_with (refine st_arr isArr32 (gn _ rfl) (by rfl) (by rfl) ?_; intro vk g11 ok; refine Hid.out ?_)
          replace hB := (hB.alloc HBS.out _).trans (ok.below HBS.out)
          have hb11w : w.heap.size ≤ v5.heap.size := HBS.out
          replace g5 := (g5.alloc _).only ok (by omega)
          replace g6 := (g6.alloc _).only ok (by omega)
          clear ok gn HBS
          generalize v5.heap.size = b11 at *
          refine Hid.mk ?_
          have hcv := str_back 32 b11 32 vk 32 (sumF key) g11.row (fun j _ => sumF_b key j) rfl
          have HKM : Hid (keyM key = mkS 32 (sumF key)) := Hid.mk (by unfold keyM; rw [if_pos hl])
          rw [HKM.out] at HMF
          generalize mkS 32 (sumF key) = kk at *
          have hz11 := g11.lt
          go_wp2_with (refine wl_makeB (n := 64) (by rfl) (by rfl) (by omega) ?_; intro v6 gc5 hb6; refine Hid.out ?_)
          have hz5 := g5.lt
          have hz6 := g6.lt
          replace g5 := g5.kept hb6
          replace g6 := g6.kept hb6
          replace hB := hB.trans (hb6.mono hB.size)
          clear hb6
          refine Hid.mk ?_
          go_wp2_with (refine wl_makeB (n := 64) (by rfl) (by rfl) (by omega) ?_; intro v7 gc6 hb7; refine Hid.out ?_)
          have hzc := gc5.lt
          replace g5 := g5.kept hb7
          replace g6 := g6.kept hb7
          replace gc5 := gc5.kept hb7
          replace hB := hB.trans (hb7.mono hB.size)
          clear hb7
          refine Hid.mk ?_
          generalize v6.heap.size = c6 at *
          generalize vk.heap.size = c5 at *
          
          go_wp2_with fail
          go_loopg [14] 64 (fun gm iv v => ∃ i : Nat, Hid (gm + i = 64) ∧ iv = .int .i64 (i : Int) ∧ ArrAt v b5 .u8 23 32 A ∧ ArrAt v b6 .u8 23 32 M ∧ ArrAt v c5 .u8 5 64 (halfK kk 54 i) ∧ ArrAt v c6 .u8 5 64 (halfK kk 92 i) ∧ Below w.heap.size w v)
          case atStart => exact ⟨0, Hid.mk rfl, rfl, g5, g6, gc5.congr (fun j _ => by unfold halfK; rw [if_neg (by omega)]), gc6.congr (fun j _ => by unfold halfK; rw [if_neg (by omega)]), hB⟩
          case round =>
            clear g5 g6 gc5 gc6 hB
            obtain ⟨i, HI, rfl, g5, g6, gc5, gc6, hB⟩ := hrel
            have hi64 : i ≤ 64 := by have := HI.out; omega
            by_cases hil : i < 64
            · have k5 := gc5.cell i hil
              have f5 := gc5.free i
              have n5 := gc5.set i 54 hil
              have o5 : Only c5 wr _ := only_set (w := wr) (g := c5) (i := i) (v := .int .u8 54)
              have gc6n := gc6.only o5 (by omega)
              have k6 := gc6n.cell i hil
              have f6 := gc6n.free i
              have n6 := gc6n.set i 92 hil
              have o6 : Only c6 (wr.setCell ⟨c5, i, none⟩ (.int .u8 54)) _ := only_set (w := wr.setCell ⟨c5, i, none⟩ (.int .u8 54)) (g := c6) (i := i) (v := .int .u8 92)
              have HN5 := Hid.mk (n5.only o6 (by omega))
              have HN6 := Hid.mk n6
              have HG5 := Hid.mk ((g5.only o5 (by omega)).only o6 (by omega))
              have HG6 := Hid.mk ((g6.only o5 (by omega)).only o6 (by omega))
              have HNB := Hid.mk ((hB.trans (o5.below (by omega))).trans (o6.below (by omega)))
              clear n5 n6 o5 o6 gc5 gc6 g5 g6 hB gc6n
              by_cases hik : i < kk.size
              · have hikI : (i : Int) < (kk.size : Int) := by omega
                have e5 : bits .xor .u8 54 ((kk[i].toNat : Nat) : Int) = xorw (txt kk i) 54 := by rw [txt_get hik, xorw_comm]; exact u8_xor _ _ (by omega) (by omega) (txt_b kk i).1 (txt_b kk i).2
                have e6 : bits .xor .u8 92 ((kk[i].toNat : Nat) : Int) = xorw (txt kk i) 92 := by rw [txt_get hik, xorw_comm]; exact u8_xor _ _ (by omega) (by omega) (txt_b kk i).1 (txt_b kk i).2
                go_wp2_with fail
                refine wp_gen (fun v => ArrAt v b5 .u8 23 32 A ∧ ArrAt v b6 .u8 23 32 M ∧ ArrAt v c5 .u8 5 64 (upd (halfK kk 54 i) i 54) ∧ ArrAt v c6 .u8 5 64 (upd (halfK kk 92 i) i 92) ∧ Below w.heap.size w v) ⟨HG5.out, HG6.out, HN5.out, HN6.out, HNB.out⟩ ?_
                clear HN5 HN6 HG5 HG6 HNB k5 k6 f5 f6
                rintro v0 ⟨g5, g6, gc5, gc6, hB⟩
                have k5 := gc5.cell i hil
                rw [show upd (halfK kk 54 i) i 54 i = 54 by unfold upd; rw [if_pos rfl]] at k5
                have f5 := gc5.free i
                have HN5 := Hid.mk ((gc5.set i (xorw (txt kk i) 54) hil).congr (s' := halfK kk 54 (i + 1)) (by rw [upd_upd]; exact halfK_next kk 54 i rfl))
                have o5 : Only c5 v0 _ := only_set (w := v0) (g := c5) (i := i) (v := .int .u8 (xorw (txt kk i) 54))
                have HG5 := Hid.mk (g5.only o5 (by omega))
                have HG6 := Hid.mk (g6.only o5 (by omega))
                have HC6 := Hid.mk (gc6.only o5 (by omega))
                have HNB := Hid.mk (hB.trans (o5.below (by omega)))
                clear g5 g6 gc5 gc6 hB o5
                generalize xorw (txt kk i) 54 = x5 at *
                go_region
                go_wp2_with fail
                refine wp_gen (fun v => ArrAt v b5 .u8 23 32 A ∧ ArrAt v b6 .u8 23 32 M ∧ ArrAt v c5 .u8 5 64 (halfK kk 54 (i + 1)) ∧ ArrAt v c6 .u8 5 64 (upd (halfK kk 92 i) i 92) ∧ Below w.heap.size w v) ⟨HG5.out, HG6.out, HN5.out, HC6.out, by first | exact HNB.out.drew | exact HNB.out⟩ ?_
                clear HN5 HC6 HG5 HG6 HNB k5 f5 e5
                rintro v8 ⟨g5, g6, gc5, gc6, hB⟩
                have k6 := gc6.cell i hil
                rw [show upd (halfK kk 92 i) i 92 i = 92 by unfold upd; rw [if_pos rfl]] at k6
                have f6 := gc6.free i
                have HN6 := Hid.mk ((gc6.set i (xorw (txt kk i) 92) hil).congr (s' := halfK kk 92 (i + 1)) (by rw [upd_upd]; exact halfK_next kk 92 i rfl))
                have o6 : Only c6 v8 _ := only_set (w := v8) (g := c6) (i := i) (v := .int .u8 (xorw (txt kk i) 92))
                have HG5 := Hid.mk (g5.only o6 (by omega))
                have HG6 := Hid.mk (g6.only o6 (by omega))
                have HC5 := Hid.mk (gc5.only o6 (by omega))
                have HNB := Hid.mk (hB.trans (o6.below (by omega)))
                clear g5 g6 gc5 gc6 hB o6
                generalize xorw (txt kk i) 92 = x6 at *
                go_region
                go_wp2_with fail
                go_roundg (64 - (i + 1))
                case rel => exact ⟨i + 1, Hid.mk (by omega), by go_num, HG5.out, HG6.out, HC5.out, HN6.out, by first | exact HNB.out.drew | exact HNB.out⟩
                case measure => have := HI.out; omega
              · have hikI : ¬ (i : Int) < (kk.size : Int) := by omega
                have hz0 := txt_beyond kk i (by omega)
                have HM5 : Hid (∀ j, j < 64 → upd (halfK kk 54 i) i 54 j = halfK kk 54 (i + 1) j) := Hid.mk (fun j hj => by
                  have h := halfK_next kk 54 i rfl j hj
                  rw [hz0] at h
                  exact h)
                have HM6 : Hid (∀ j, j < 64 → upd (halfK kk 92 i) i 92 j = halfK kk 92 (i + 1) j) := Hid.mk (fun j hj => by
                  have h := halfK_next kk 92 i rfl j hj
                  rw [hz0] at h
                  exact h)
                clear hz0
                go_wp2_with fail
                go_roundg (64 - (i + 1))
                case rel => exact ⟨i + 1, Hid.mk (by omega), by go_num, HG5.out, HG6.out, HN5.out.congr HM5.out, HN6.out.congr HM6.out, HNB.out⟩
                case measure => have := HI.out; omega
            · have hi2 : i = 64 := by omega
              subst hi2
              replace gc5 := gc5.congr (s' := padK kk 54) (fun j hj => by unfold halfK; rw [if_pos hj])
              replace gc6 := gc6.congr (s' := padK kk 92) (fun j hj => by unfold halfK; rw [if_pos hj])
              clear hil hi64 HI
              have hcv5 := str_back 64 c5 64 wr 64 (padK kk 54) gc5.row (fun j _ => padK_b (by omega) j) rfl
              have HIN : Hid (∀ sv u, Tabs u → Strs u sv 2 (two2 (mkS 64 (padK kk 54)) text) → Calls Tryd.prog 8 #[sv] u fun e w' => e = .returned (.agg (WA .u8 32 (sumF (mkS 64 (padK kk 54) ++ text)))) ∧ Below u.heap.size u w') := Hid.mk (fun sv u hT hs => by
                have h := Sum_run sv 2 _ u hT hs (by omega) (by rw [join2, ByteArray.size_append, mkS_size]; omega)
                rw [join2] at h
                exact h)
              have HIB := Hid.mk (sumF_b (mkS 64 (padK kk 54) ++ text))
              generalize sumF (mkS 64 (padK kk 54) ++ text) = I at *
              have HOUT : Hid (∀ sv u, Tabs u → Strs u sv 2 (two2 (mkS 64 (padK kk 92)) (mkS 32 I)) → Calls Tryd.prog 8 #[sv] u fun e w' => e = .returned (.agg (WA .u8 32 M)) ∧ Below u.heap.size u w') := Hid.mk (fun sv u hT hs => by
                have h := Sum_run sv 2 _ u hT hs (by omega) (by rw [join2, ByteArray.size_append, mkS_size, mkS_size]; omega)
                rw [join2, HMF.out] at h
                exact h)
              go_wp2_with (refine wl_bs2 (by rfl) (by rfl) ?_; intro v4 s4 hb4 hz4; refine Hid.out ?_)
              replace g5 := g5.kept hb4
              replace g6 := g6.kept hb4
              replace gc6 := gc6.kept hb4
              replace hB := hB.trans (hb4.mono hB.size)
              clear hb4 hz4 gc5 hcv5
              refine Hid.mk ?_
              go_wp2_with fail
              refine (HIN.out _ _ (HTW.out _ hB) s4).mono ?_
              rintro e v5 ⟨rfl, hb5⟩
              replace g5 := g5.kept hb5
              replace g6 := g6.kept hb5
              replace gc6 := gc6.kept hb5
              replace hB := hB.trans (hb5.mono hB.size)
              clear hb5 s4
              have gn := fun o (ho : o = Obj.cells (WA .u8 32 fun _ => 0) 23 (0, 0)) => (by rw [ho]; exact heap_alloc_new v5 _ : ArrAt (v5.alloc o) v5.heap.size .u8 23 32 (fun _ => 0))
              have HBS := Hid.mk hB.size
              have hzg5 := g5.lt
              have hzg6 := g6.lt
              have hzgc6 := gc6.lt
              go_wp2_with (refine st_arr isArr32 (gn _ rfl) (by rfl) (by rfl) ?_; intro vh gh ok; refine Hid.out ?_)
              replace hB := (hB.alloc HBS.out _).trans (ok.below HBS.out)
              have hbhw : w.heap.size ≤ v5.heap.size := HBS.out
              replace g5 := (g5.alloc _).only ok (by omega)
              replace g6 := (g6.alloc _).only ok (by omega)
              replace gc6 := (gc6.alloc _).only ok (by omega)
              clear ok gn HBS
              generalize v5.heap.size = bh at *
              refine Hid.mk ?_
              go_wp2_with fail
              refine wp_gen (fun v => ArrAt v b5 .u8 23 32 A ∧ ArrAt v b6 .u8 23 32 M ∧ ArrAt v c6 .u8 5 64 (padK kk 92) ∧ ArrAt v bh .u8 23 32 I ∧ Below w.heap.size w v) ⟨g5, g6, gc6, gh, hB⟩ ?_
              clear g5 g6 gc6 gh hB
              rintro v0 ⟨g5, g6, gc6, gh, hB⟩
              have HG5 : Hid (∀ u, Below v0.heap.size v0 u → ArrAt u b5 .u8 23 32 A) := Hid.mk (fun u hu => g5.kept hu)
              have HG6 : Hid (∀ u, Below v0.heap.size v0 u → ArrAt u b6 .u8 23 32 M) := Hid.mk (fun u hu => g6.kept hu)
              have HC6 : Hid (∀ u, Below v0.heap.size v0 u → ArrAt u c6 .u8 5 64 (padK kk 92)) := Hid.mk (fun u hu => gc6.kept hu)
              have HBH : Hid (∀ u, Below v0.heap.size v0 u → ArrAt u bh .u8 23 32 I) := Hid.mk (fun u hu => gh.kept hu)
              have HT : Hid (∀ u, Below v0.heap.size v0 u → Tabs u) := Hid.mk (fun u hu => HTW.out u (hB.trans (hu.mono hB.size)))
              refine wp_region3 (Below v0.heap.size v0) v0.heap.size
                ([] : List (Nat × Cont))
                [kv (.string (mkS 32 A)), kv (.slice (some ⟨b5, 0, none⟩) 32 32), kv (.string (mkS 32 A)), kv (.bool true), kv (.bool true), kv (.int .i64 0), kv (.bool true), kv (.bool true), kv (.bool true), kv (.slice (some ⟨c6, 0, none⟩) 64 64), kv (.string (mkS 64 (padK kk 92))), kv (.slice (some ⟨bh, 0, none⟩) 32 32), kv (.string (mkS 32 I)), .new (slTo 2) ⟨fun ob => ob = .cells #[.string (mkS 64 (padK kk 92)), .string (mkS 32 I)] 9 (0, 0), []⟩, kv (.agg (WA .u8 32 M)), kv (.agg (WA .u8 32 M)), kv (.bool true), kv (.bool true), kv (.bool true), kv (.bool true), kv (.bool true), kv (.bool true)]
                [.none, .none, .none, .none, .none, .none, .none, .none, .none, .none, .none, .none, .none, .none, .none, .none, .none, .none, .none, .none, .none, .none]
                [some 118, some 119, some 120, some 121, some 122, some 123, some 124, some 125, some 126, some 127, some 128, some 129, some 130, some 131, some 132, some 133, some 134, some 135, some 136, some 137, some 138, some 4]
                [(8, .string (mkS 32 A)), (5, .pointer (some ⟨b5, 0, none⟩)), (9, .int .i64 0), (13, .slice (some ⟨c6, 0, none⟩) 64 64), (15, .pointer (some ⟨bh, 0, none⟩)), (6, .pointer (some ⟨b6, 0, none⟩))]
                [[], [], [.slot 1], [.slot 0, .slot 2], [.slot 3], [.slot 4], [.slot 4, .slot 5], [.slot 4, .slot 6], [.slot 7], [.slot 8], [.slot 8, .slot 9], [.slot 8], [.slot 8, .slot 11], [.slot 8, .slot 10, .slot 12], [.slot 8, .slot 13, .cont 13 0], [.slot 8], [.slot 8, .slot 14, .slot 15], [.slot 8, .slot 16], [.slot 17], [.slot 18], [.slot 18, .slot 19], [.slot 20]]
                [.slot 21] [118, 119, 120, 121, 122, 123, 124, 125, 126, 127, 128, 129, 130, 131, 132, 133, 134, 135, 136, 137, 138, 4]
                rfl (by kernel_rfl) ⟨rfl, rfl, rfl, rfl, rfl, rfl, trivial⟩ (Below.refl _ v0).drew (Nat.le_refl _) trivial trivial (below_G (Nat.le_refl _) trivial)
                ⟨
                  -- 0
                  (fun Q aq ww own hS hBg fr kn => .inl ⟨trivial, fun K hK => wp_value (exec_move rfl fr.1) (hK _ _ ⟨Touch.refl _ _, rfl⟩)⟩),
                  -- 1
                  (fun Q aq ww own hS hBg fr kn => .inl ⟨trivial, fun K hK => wp_value (exec_sl (v := .pointer (some ⟨b5, 0, none⟩)) rfl fr.2.1 (sl32w b5 ww)) (hK _ _ ⟨Touch.refl _ _, rfl⟩)⟩),
                  -- 2
                  (fun Q aq ww own hS hBg fr kn => .inl ⟨trivial, fun K hK => wp_value (exec_conv rfl kn.1 (str_back 32 b5 32 ww 32 A (ArrAt.row (HG5.out ww hS)) (fun j _ => HAB.out j) rfl)) (hK _ _ ⟨Touch.refl _ _, rfl⟩)⟩),
                  -- 3
                  (fun Q aq ww own hS hBg fr kn => .inl ⟨trivial, fun K hK => wp_value (exec_eqS rfl kn.1 kn.2.1) (hK _ _ ⟨Touch.refl _ _, rfl⟩)⟩),
                  -- 4
                  (fun Q aq ww own hS hBg fr kn => .inl ⟨trivial, fun K hK => wp_value (exec_move rfl kn.1) (hK _ _ ⟨Touch.refl _ _, rfl⟩)⟩),
                  -- 5
                  (fun Q aq ww own hS hBg fr kn => .inl ⟨kn.1, fun K hK => wp_value (exec_move rfl fr.2.2.1) (hK _ _ ⟨Touch.refl _ _, rfl⟩)⟩),
                  -- 6
                  (fun Q aq ww own hS hBg fr kn => .inl ⟨kn.1, fun K hK => wp_value (exec_eqE rfl kn.2.1 rfl) (hK _ _ ⟨Touch.refl _ _, rfl⟩)⟩),
                  -- 7
                  (fun Q aq ww own hS hBg fr kn => .inl ⟨trivial, fun K hK => wp_value (exec_pick rfl kn.1 kn.2.1) (hK _ _ ⟨Touch.refl _ _, rfl⟩)⟩),
                  -- 8
                  (fun Q aq ww own hS hBg fr kn => .inl ⟨trivial, fun K hK => wp_value (exec_move rfl kn.1) (hK _ _ ⟨Touch.refl _ _, rfl⟩)⟩),
                  -- 9
                  (fun Q aq ww own hS hBg fr kn => .inl ⟨kn.1, fun K hK => wp_value (exec_move rfl fr.2.2.2.1) (hK _ _ ⟨Touch.refl _ _, rfl⟩)⟩),
                  -- 10
                  (fun Q aq ww own hS hBg fr kn => .inl ⟨kn.1, fun K hK => wp_value (exec_conv rfl kn.2.1 (str_back 64 c6 64 ww 64 _ (ArrAt.row (HC6.out ww hS)) (fun j _ => padK_b (by omega) j) rfl)) (hK _ _ ⟨Touch.refl _ _, rfl⟩)⟩),
                  -- 11
                  (fun Q aq ww own hS hBg fr kn => .inl ⟨kn.1, fun K hK => wp_value (exec_sl (v := .pointer (some ⟨bh, 0, none⟩)) rfl fr.2.2.2.2.1 (sl32w bh ww)) (hK _ _ ⟨Touch.refl _ _, rfl⟩)⟩),
                  -- 12
                  (fun Q aq ww own hS hBg fr kn => .inl ⟨kn.1, fun K hK => wp_value (exec_conv rfl kn.2.1 (str_back 32 bh 32 ww 32 I (ArrAt.row (HBH.out ww hS)) (fun j _ => HIB.out j) rfl)) (hK _ _ ⟨Touch.refl _ _, rfl⟩)⟩),
                  -- 13
                  (fun Q aq ww own hS hBg fr kn => .inl ⟨kn.1, fun K hK => act_bs2 rfl kn.2.1 kn.2.2.1 (fun v hg hb => hK _ _ ⟨touch_below hb, _, Nat.le_refl _, rfl, ⟨_, hg, rfl⟩⟩)⟩),
                  -- 14
                  (fun Q aq ww own hS hBg fr kn => .inl ⟨kn.1, fun K hK => stepc enterSumc rfl (args1 kn.2.1.1) (HOUT.out _ ww (HT.out ww hS) (strsC2 kn.2.2.1)) (fun w' hb => hK _ _ ⟨touch_below hb, rfl⟩)⟩),
                  -- 15
                  (fun Q aq ww own hS hBg fr kn => .inl ⟨kn.1, fun K hK => wp_value (look_arr rfl isArr32 (HG6.out ww hS) fr.2.2.2.2.2.1) (hK _ _ ⟨Touch.refl _ _, rfl⟩)⟩),
                  -- 16
                  (fun Q aq ww own hS hBg fr kn => .inl ⟨kn.1, fun K hK => wp_value (eql_WA rfl Tryd.underlying23 eqG32 kn.2.1 kn.2.2.1) (hK _ _ ⟨Touch.refl _ _, rfl⟩)⟩),
                  -- 17
                  (fun Q aq ww own hS hBg fr kn => .inl ⟨trivial, fun K hK => wp_value (exec_pick rfl kn.1 kn.2.1) (hK _ _ ⟨Touch.refl _ _, rfl⟩)⟩),
                  -- 18
                  (fun Q aq ww own hS hBg fr kn => .inl ⟨trivial, fun K hK => wp_value (exec_move rfl kn.1) (hK _ _ ⟨Touch.refl _ _, rfl⟩)⟩),
                  -- 19
                  (fun Q aq ww own hS hBg fr kn => .inl ⟨kn.1, fun K hK => stepc enterAwakeB rfl (args0) (awake_run ww (HT.out ww hS)) (fun w' hb => hK _ _ ⟨touch_below hb, rfl⟩)⟩),
                  -- 20
                  (fun Q aq ww own hS hBg fr kn => .inl ⟨trivial, fun K hK => wp_value (exec_pick rfl kn.1 kn.2.1) (hK _ _ ⟨Touch.refl _ _, rfl⟩)⟩),
                  -- 21
                  (fun Q aq ww own hS hBg fr kn => .inl ⟨trivial, fun K hK => wp_value (exec_assign rfl kn.1) (hK _ _ ⟨Touch.refl _ _, rfl⟩)⟩),
                  trivial⟩ ?_
              intro vs own v9 hB9 hs9 kn inj
              clear inj hs9
              have e4 : vs 4 = .bool true := kn.1
              clear kn
              simp only [putAll, Act.put, List.setIfInBounds_toArray, List.set_cons_zero, List.set_cons_succ, e4]
              go_wp2_with fail
              go_ret
              exact ⟨rfl, hB.trans (hB9.mono hB.size)⟩
        · have hlI : ¬ (64 : Int) < (key.size : Int) := by omega
          go_wp2_with (refine wl_bs1 (by rfl) ?_; intro v1 s1 hb1 hz1; refine Hid.out ?_)
          replace g5 := g5.kept hb1
          replace g6 := g6.kept hb1
          replace hB := hB.trans (hb1.mono hB.size)
          clear hb1 hz1
          refine Hid.mk ?_
          go_wp2_with fail
          refine (HKY.out _ _ (HTW.out _ hB) s1).mono ?_
          rintro e v2 ⟨rfl, hb2⟩
          replace g5 := g5.kept hb2
          replace g6 := g6.kept hb2
          replace hB := hB.trans (hb2.mono hB.size)
          clear hb2 s1
          obtain ⟨kk, hkk⟩ : ∃ kk, kk = key := ⟨_, rfl⟩
          have HKM : Hid (keyM key = kk) := Hid.mk (by rw [hkk]; unfold keyM; rw [if_neg hl])
          rw [HKM.out] at HMF
          have HKK := Hid.mk hkk
          clear hkk
          go_wp2_with (refine wl_makeB (n := 64) (by rfl) (by rfl) (by omega) ?_; intro v6 gc5 hb6; refine Hid.out ?_)
          have hz5 := g5.lt
          have hz6 := g6.lt
          replace g5 := g5.kept hb6
          replace g6 := g6.kept hb6
          replace hB := hB.trans (hb6.mono hB.size)
          clear hb6
          refine Hid.mk ?_
          go_wp2_with (refine wl_makeB (n := 64) (by rfl) (by rfl) (by omega) ?_; intro v7 gc6 hb7; refine Hid.out ?_)
          have hzc := gc5.lt
          replace g5 := g5.kept hb7
          replace g6 := g6.kept hb7
          replace gc5 := gc5.kept hb7
          replace hB := hB.trans (hb7.mono hB.size)
          clear hb7
          refine Hid.mk ?_
          generalize v6.heap.size = c6 at *
          generalize v2.heap.size = c5 at *
          rw [← HKK.out]
          go_wp2_with fail
          go_loopg [14] 64 (fun gm iv v => ∃ i : Nat, Hid (gm + i = 64) ∧ iv = .int .i64 (i : Int) ∧ ArrAt v b5 .u8 23 32 A ∧ ArrAt v b6 .u8 23 32 M ∧ ArrAt v c5 .u8 5 64 (halfK kk 54 i) ∧ ArrAt v c6 .u8 5 64 (halfK kk 92 i) ∧ Below w.heap.size w v)
          case atStart => exact ⟨0, Hid.mk rfl, rfl, g5, g6, gc5.congr (fun j _ => by unfold halfK; rw [if_neg (by omega)]), gc6.congr (fun j _ => by unfold halfK; rw [if_neg (by omega)]), hB⟩
          case round =>
            clear g5 g6 gc5 gc6 hB
            obtain ⟨i, HI, rfl, g5, g6, gc5, gc6, hB⟩ := hrel
            have hi64 : i ≤ 64 := by have := HI.out; omega
            by_cases hil : i < 64
            · have k5 := gc5.cell i hil
              have f5 := gc5.free i
              have n5 := gc5.set i 54 hil
              have o5 : Only c5 wr _ := only_set (w := wr) (g := c5) (i := i) (v := .int .u8 54)
              have gc6n := gc6.only o5 (by omega)
              have k6 := gc6n.cell i hil
              have f6 := gc6n.free i
              have n6 := gc6n.set i 92 hil
              have o6 : Only c6 (wr.setCell ⟨c5, i, none⟩ (.int .u8 54)) _ := only_set (w := wr.setCell ⟨c5, i, none⟩ (.int .u8 54)) (g := c6) (i := i) (v := .int .u8 92)
              have HN5 := Hid.mk (n5.only o6 (by omega))
              have HN6 := Hid.mk n6
              have HG5 := Hid.mk ((g5.only o5 (by omega)).only o6 (by omega))
              have HG6 := Hid.mk ((g6.only o5 (by omega)).only o6 (by omega))
              have HNB := Hid.mk ((hB.trans (o5.below (by omega))).trans (o6.below (by omega)))
              clear n5 n6 o5 o6 gc5 gc6 g5 g6 hB gc6n
              by_cases hik : i < kk.size
              · have hikI : (i : Int) < (kk.size : Int) := by omega
                have e5 : bits .xor .u8 54 ((kk[i].toNat : Nat) : Int) = xorw (txt kk i) 54 := by rw [txt_get hik, xorw_comm]; exact u8_xor _ _ (by omega) (by omega) (txt_b kk i).1 (txt_b kk i).2
                have e6 : bits .xor .u8 92 ((kk[i].toNat : Nat) : Int) = xorw (txt kk i) 92 := by rw [txt_get hik, xorw_comm]; exact u8_xor _ _ (by omega) (by omega) (txt_b kk i).1 (txt_b kk i).2
                go_wp2_with fail
                refine wp_gen (fun v => ArrAt v b5 .u8 23 32 A ∧ ArrAt v b6 .u8 23 32 M ∧ ArrAt v c5 .u8 5 64 (upd (halfK kk 54 i) i 54) ∧ ArrAt v c6 .u8 5 64 (upd (halfK kk 92 i) i 92) ∧ Below w.heap.size w v) ⟨HG5.out, HG6.out, HN5.out, HN6.out, HNB.out⟩ ?_
                clear HN5 HN6 HG5 HG6 HNB k5 k6 f5 f6
                rintro v0 ⟨g5, g6, gc5, gc6, hB⟩
                have k5 := gc5.cell i hil
                rw [show upd (halfK kk 54 i) i 54 i = 54 by unfold upd; rw [if_pos rfl]] at k5
                have f5 := gc5.free i
                have HN5 := Hid.mk ((gc5.set i (xorw (txt kk i) 54) hil).congr (s' := halfK kk 54 (i + 1)) (by rw [upd_upd]; exact halfK_next kk 54 i rfl))
                have o5 : Only c5 v0 _ := only_set (w := v0) (g := c5) (i := i) (v := .int .u8 (xorw (txt kk i) 54))
                have HG5 := Hid.mk (g5.only o5 (by omega))
                have HG6 := Hid.mk (g6.only o5 (by omega))
                have HC6 := Hid.mk (gc6.only o5 (by omega))
                have HNB := Hid.mk (hB.trans (o5.below (by omega)))
                clear g5 g6 gc5 gc6 hB o5
                generalize xorw (txt kk i) 54 = x5 at *
                go_region
                go_wp2_with fail
                refine wp_gen (fun v => ArrAt v b5 .u8 23 32 A ∧ ArrAt v b6 .u8 23 32 M ∧ ArrAt v c5 .u8 5 64 (halfK kk 54 (i + 1)) ∧ ArrAt v c6 .u8 5 64 (upd (halfK kk 92 i) i 92) ∧ Below w.heap.size w v) ⟨HG5.out, HG6.out, HN5.out, HC6.out, by first | exact HNB.out.drew | exact HNB.out⟩ ?_
                clear HN5 HC6 HG5 HG6 HNB k5 f5 e5
                rintro v8 ⟨g5, g6, gc5, gc6, hB⟩
                have k6 := gc6.cell i hil
                rw [show upd (halfK kk 92 i) i 92 i = 92 by unfold upd; rw [if_pos rfl]] at k6
                have f6 := gc6.free i
                have HN6 := Hid.mk ((gc6.set i (xorw (txt kk i) 92) hil).congr (s' := halfK kk 92 (i + 1)) (by rw [upd_upd]; exact halfK_next kk 92 i rfl))
                have o6 : Only c6 v8 _ := only_set (w := v8) (g := c6) (i := i) (v := .int .u8 (xorw (txt kk i) 92))
                have HG5 := Hid.mk (g5.only o6 (by omega))
                have HG6 := Hid.mk (g6.only o6 (by omega))
                have HC5 := Hid.mk (gc5.only o6 (by omega))
                have HNB := Hid.mk (hB.trans (o6.below (by omega)))
                clear g5 g6 gc5 gc6 hB o6
                generalize xorw (txt kk i) 92 = x6 at *
                go_region
                go_wp2_with fail
                go_roundg (64 - (i + 1))
                case rel => exact ⟨i + 1, Hid.mk (by omega), by go_num, HG5.out, HG6.out, HC5.out, HN6.out, by first | exact HNB.out.drew | exact HNB.out⟩
                case measure => have := HI.out; omega
              · have hikI : ¬ (i : Int) < (kk.size : Int) := by omega
                have hz0 := txt_beyond kk i (by omega)
                have HM5 : Hid (∀ j, j < 64 → upd (halfK kk 54 i) i 54 j = halfK kk 54 (i + 1) j) := Hid.mk (fun j hj => by
                  have h := halfK_next kk 54 i rfl j hj
                  rw [hz0] at h
                  exact h)
                have HM6 : Hid (∀ j, j < 64 → upd (halfK kk 92 i) i 92 j = halfK kk 92 (i + 1) j) := Hid.mk (fun j hj => by
                  have h := halfK_next kk 92 i rfl j hj
                  rw [hz0] at h
                  exact h)
                clear hz0
                go_wp2_with fail
                go_roundg (64 - (i + 1))
                case rel => exact ⟨i + 1, Hid.mk (by omega), by go_num, HG5.out, HG6.out, HN5.out.congr HM5.out, HN6.out.congr HM6.out, HNB.out⟩
                case measure => have := HI.out; omega
            · have hi2 : i = 64 := by omega
              subst hi2
              replace gc5 := gc5.congr (s' := padK kk 54) (fun j hj => by unfold halfK; rw [if_pos hj])
              replace gc6 := gc6.congr (s' := padK kk 92) (fun j hj => by unfold halfK; rw [if_pos hj])
              clear hil hi64 HI
              have hcv5 := str_back 64 c5 64 wr 64 (padK kk 54) gc5.row (fun j _ => padK_b (by omega) j) rfl
              have HIN : Hid (∀ sv u, Tabs u → Strs u sv 2 (two2 (mkS 64 (padK kk 54)) text) → Calls Tryd.prog 8 #[sv] u fun e w' => e = .returned (.agg (WA .u8 32 (sumF (mkS 64 (padK kk 54) ++ text)))) ∧ Below u.heap.size u w') := Hid.mk (fun sv u hT hs => by
                have h := Sum_run sv 2 _ u hT hs (by omega) (by rw [join2, ByteArray.size_append, mkS_size]; omega)
                rw [join2] at h
                exact h)
              have HIB := Hid.mk (sumF_b (mkS 64 (padK kk 54) ++ text))
              generalize sumF (mkS 64 (padK kk 54) ++ text) = I at *
              have HOUT : Hid (∀ sv u, Tabs u → Strs u sv 2 (two2 (mkS 64 (padK kk 92)) (mkS 32 I)) → Calls Tryd.prog 8 #[sv] u fun e w' => e = .returned (.agg (WA .u8 32 M)) ∧ Below u.heap.size u w') := Hid.mk (fun sv u hT hs => by
                have h := Sum_run sv 2 _ u hT hs (by omega) (by rw [join2, ByteArray.size_append, mkS_size, mkS_size]; omega)
                rw [join2, HMF.out] at h
                exact h)
              go_wp2_with (refine wl_bs2 (by rfl) (by rfl) ?_; intro v4 s4 hb4 hz4; refine Hid.out ?_)
              replace g5 := g5.kept hb4
              replace g6 := g6.kept hb4
              replace gc6 := gc6.kept hb4
              replace hB := hB.trans (hb4.mono hB.size)
              clear hb4 hz4 gc5 hcv5
              refine Hid.mk ?_
              go_wp2_with fail
              refine (HIN.out _ _ (HTW.out _ hB) s4).mono ?_
              rintro e v5 ⟨rfl, hb5⟩
              replace g5 := g5.kept hb5
              replace g6 := g6.kept hb5
              replace gc6 := gc6.kept hb5
              replace hB := hB.trans (hb5.mono hB.size)
              clear hb5 s4
              have gn := fun o (ho : o = Obj.cells (WA .u8 32 fun _ => 0) 23 (0, 0)) => (by rw [ho]; exact heap_alloc_new v5 _ : ArrAt (v5.alloc o) v5.heap.size .u8 23 32 (fun _ => 0))
              have HBS := Hid.mk hB.size
              have hzg5 := g5.lt
              have hzg6 := g6.lt
              have hzgc6 := gc6.lt
              go_wp2_with (refine st_arr isArr32 (gn _ rfl) (by rfl) (by rfl) ?_; intro vh gh ok; refine Hid.out ?_)
              replace hB := (hB.alloc HBS.out _).trans (ok.below HBS.out)
              have hbhw : w.heap.size ≤ v5.heap.size := HBS.out
              replace g5 := (g5.alloc _).only ok (by omega)
              replace g6 := (g6.alloc _).only ok (by omega)
              replace gc6 := (gc6.alloc _).only ok (by omega)
              clear ok gn HBS
              generalize v5.heap.size = bh at *
              refine Hid.mk ?_
              go_wp2_with fail
              refine wp_gen (fun v => ArrAt v b5 .u8 23 32 A ∧ ArrAt v b6 .u8 23 32 M ∧ ArrAt v c6 .u8 5 64 (padK kk 92) ∧ ArrAt v bh .u8 23 32 I ∧ Below w.heap.size w v) ⟨g5, g6, gc6, gh, hB⟩ ?_
              clear g5 g6 gc6 gh hB
              rintro v0 ⟨g5, g6, gc6, gh, hB⟩
              have HG5 : Hid (∀ u, Below v0.heap.size v0 u → ArrAt u b5 .u8 23 32 A) := Hid.mk (fun u hu => g5.kept hu)
              have HG6 : Hid (∀ u, Below v0.heap.size v0 u → ArrAt u b6 .u8 23 32 M) := Hid.mk (fun u hu => g6.kept hu)
              have HC6 : Hid (∀ u, Below v0.heap.size v0 u → ArrAt u c6 .u8 5 64 (padK kk 92)) := Hid.mk (fun u hu => gc6.kept hu)
              have HBH : Hid (∀ u, Below v0.heap.size v0 u → ArrAt u bh .u8 23 32 I) := Hid.mk (fun u hu => gh.kept hu)
              have HT : Hid (∀ u, Below v0.heap.size v0 u → Tabs u) := Hid.mk (fun u hu => HTW.out u (hB.trans (hu.mono hB.size)))
              refine wp_region3 (Below v0.heap.size v0) v0.heap.size
                ([] : List (Nat × Cont))
                [kv (.string (mkS 32 A)), kv (.slice (some ⟨b5, 0, none⟩) 32 32), kv (.string (mkS 32 A)), kv (.bool true), kv (.bool true), kv (.int .i64 0), kv (.bool true), kv (.bool true), kv (.bool true), kv (.slice (some ⟨c6, 0, none⟩) 64 64), kv (.string (mkS 64 (padK kk 92))), kv (.slice (some ⟨bh, 0, none⟩) 32 32), kv (.string (mkS 32 I)), .new (slTo 2) ⟨fun ob => ob = .cells #[.string (mkS 64 (padK kk 92)), .string (mkS 32 I)] 9 (0, 0), []⟩, kv (.agg (WA .u8 32 M)), kv (.agg (WA .u8 32 M)), kv (.bool true), kv (.bool true), kv (.bool true), kv (.bool true), kv (.bool true), kv (.bool true)]
                [.none, .none, .none, .none, .none, .none, .none, .none, .none, .none, .none, .none, .none, .none, .none, .none, .none, .none, .none, .none, .none, .none]
                [some 118, some 119, some 120, some 121, some 122, some 123, some 124, some 125, some 126, some 127, some 128, some 129, some 130, some 131, some 132, some 133, some 134, some 135, some 136, some 137, some 138, some 4]
                [(8, .string (mkS 32 A)), (5, .pointer (some ⟨b5, 0, none⟩)), (9, .int .i64 0), (13, .slice (some ⟨c6, 0, none⟩) 64 64), (15, .pointer (some ⟨bh, 0, none⟩)), (6, .pointer (some ⟨b6, 0, none⟩))]
                [[], [], [.slot 1], [.slot 0, .slot 2], [.slot 3], [.slot 4], [.slot 4, .slot 5], [.slot 4, .slot 6], [.slot 7], [.slot 8], [.slot 8, .slot 9], [.slot 8], [.slot 8, .slot 11], [.slot 8, .slot 10, .slot 12], [.slot 8, .slot 13, .cont 13 0], [.slot 8], [.slot 8, .slot 14, .slot 15], [.slot 8, .slot 16], [.slot 17], [.slot 18], [.slot 18, .slot 19], [.slot 20]]
                [.slot 21] [118, 119, 120, 121, 122, 123, 124, 125, 126, 127, 128, 129, 130, 131, 132, 133, 134, 135, 136, 137, 138, 4]
                rfl (by kernel_rfl) ⟨rfl, rfl, rfl, rfl, rfl, rfl, trivial⟩ (Below.refl _ v0).drew (Nat.le_refl _) trivial trivial (below_G (Nat.le_refl _) trivial)
                ⟨
                  -- 0
                  (fun Q aq ww own hS hBg fr kn => .inl ⟨trivial, fun K hK => wp_value (exec_move rfl fr.1) (hK _ _ ⟨Touch.refl _ _, rfl⟩)⟩),
                  -- 1
                  (fun Q aq ww own hS hBg fr kn => .inl ⟨trivial, fun K hK => wp_value (exec_sl (v := .pointer (some ⟨b5, 0, none⟩)) rfl fr.2.1 (sl32w b5 ww)) (hK _ _ ⟨Touch.refl _ _, rfl⟩)⟩),
                  -- 2
                  (fun Q aq ww own hS hBg fr kn => .inl ⟨trivial, fun K hK => wp_value (exec_conv rfl kn.1 (str_back 32 b5 32 ww 32 A (ArrAt.row (HG5.out ww hS)) (fun j _ => HAB.out j) rfl)) (hK _ _ ⟨Touch.refl _ _, rfl⟩)⟩),
                  -- 3
                  (fun Q aq ww own hS hBg fr kn => .inl ⟨trivial, fun K hK => wp_value (exec_eqS rfl kn.1 kn.2.1) (hK _ _ ⟨Touch.refl _ _, rfl⟩)⟩),
                  -- 4
                  (fun Q aq ww own hS hBg fr kn => .inl ⟨trivial, fun K hK => wp_value (exec_move rfl kn.1) (hK _ _ ⟨Touch.refl _ _, rfl⟩)⟩),
                  -- 5
                  (fun Q aq ww own hS hBg fr kn => .inl ⟨kn.1, fun K hK => wp_value (exec_move rfl fr.2.2.1) (hK _ _ ⟨Touch.refl _ _, rfl⟩)⟩),
                  -- 6
                  (fun Q aq ww own hS hBg fr kn => .inl ⟨kn.1, fun K hK => wp_value (exec_eqE rfl kn.2.1 rfl) (hK _ _ ⟨Touch.refl _ _, rfl⟩)⟩),
                  -- 7
                  (fun Q aq ww own hS hBg fr kn => .inl ⟨trivial, fun K hK => wp_value (exec_pick rfl kn.1 kn.2.1) (hK _ _ ⟨Touch.refl _ _, rfl⟩)⟩),
                  -- 8
                  (fun Q aq ww own hS hBg fr kn => .inl ⟨trivial, fun K hK => wp_value (exec_move rfl kn.1) (hK _ _ ⟨Touch.refl _ _, rfl⟩)⟩),
                  -- 9
                  (fun Q aq ww own hS hBg fr kn => .inl ⟨kn.1, fun K hK => wp_value (exec_move rfl fr.2.2.2.1) (hK _ _ ⟨Touch.refl _ _, rfl⟩)⟩),
                  -- 10
                  (fun Q aq ww own hS hBg fr kn => .inl ⟨kn.1, fun K hK => wp_value (exec_conv rfl kn.2.1 (str_back 64 c6 64 ww 64 _ (ArrAt.row (HC6.out ww hS)) (fun j _ => padK_b (by omega) j) rfl)) (hK _ _ ⟨Touch.refl _ _, rfl⟩)⟩),
                  -- 11
                  (fun Q aq ww own hS hBg fr kn => .inl ⟨kn.1, fun K hK => wp_value (exec_sl (v := .pointer (some ⟨bh, 0, none⟩)) rfl fr.2.2.2.2.1 (sl32w bh ww)) (hK _ _ ⟨Touch.refl _ _, rfl⟩)⟩),
                  -- 12
                  (fun Q aq ww own hS hBg fr kn => .inl ⟨kn.1, fun K hK => wp_value (exec_conv rfl kn.2.1 (str_back 32 bh 32 ww 32 I (ArrAt.row (HBH.out ww hS)) (fun j _ => HIB.out j) rfl)) (hK _ _ ⟨Touch.refl _ _, rfl⟩)⟩),
                  -- 13
                  (fun Q aq ww own hS hBg fr kn => .inl ⟨kn.1, fun K hK => act_bs2 rfl kn.2.1 kn.2.2.1 (fun v hg hb => hK _ _ ⟨touch_below hb, _, Nat.le_refl _, rfl, ⟨_, hg, rfl⟩⟩)⟩),
                  -- 14
                  (fun Q aq ww own hS hBg fr kn => .inl ⟨kn.1, fun K hK => stepc enterSumc rfl (args1 kn.2.1.1) (HOUT.out _ ww (HT.out ww hS) (strsC2 kn.2.2.1)) (fun w' hb => hK _ _ ⟨touch_below hb, rfl⟩)⟩),
                  -- 15
                  (fun Q aq ww own hS hBg fr kn => .inl ⟨kn.1, fun K hK => wp_value (look_arr rfl isArr32 (HG6.out ww hS) fr.2.2.2.2.2.1) (hK _ _ ⟨Touch.refl _ _, rfl⟩)⟩),
                  -- 16
                  (fun Q aq ww own hS hBg fr kn => .inl ⟨kn.1, fun K hK => wp_value (eql_WA rfl Tryd.underlying23 eqG32 kn.2.1 kn.2.2.1) (hK _ _ ⟨Touch.refl _ _, rfl⟩)⟩),
                  -- 17
                  (fun Q aq ww own hS hBg fr kn => .inl ⟨trivial, fun K hK => wp_value (exec_pick rfl kn.1 kn.2.1) (hK _ _ ⟨Touch.refl _ _, rfl⟩)⟩),
                  -- 18
                  (fun Q aq ww own hS hBg fr kn => .inl ⟨trivial, fun K hK => wp_value (exec_move rfl kn.1) (hK _ _ ⟨Touch.refl _ _, rfl⟩)⟩),
                  -- 19
                  (fun Q aq ww own hS hBg fr kn => .inl ⟨kn.1, fun K hK => stepc enterAwakeB rfl (args0) (awake_run ww (HT.out ww hS)) (fun w' hb => hK _ _ ⟨touch_below hb, rfl⟩)⟩),
                  -- 20
                  (fun Q aq ww own hS hBg fr kn => .inl ⟨trivial, fun K hK => wp_value (exec_pick rfl kn.1 kn.2.1) (hK _ _ ⟨Touch.refl _ _, rfl⟩)⟩),
                  -- 21
                  (fun Q aq ww own hS hBg fr kn => .inl ⟨trivial, fun K hK => wp_value (exec_assign rfl kn.1) (hK _ _ ⟨Touch.refl _ _, rfl⟩)⟩),
                  trivial⟩ ?_
              intro vs own v9 hB9 hs9 kn inj
              clear inj hs9
              have e4 : vs 4 = .bool true := kn.1
              clear kn
              simp only [putAll, Act.put, List.setIfInBounds_toArray, List.set_cons_zero, List.set_cons_succ, e4]
              go_wp2_with fail
              go_ret
              exact ⟨rfl, hB.trans (hB9.mono hB.size)⟩
    · have hi1I : ¬ (i : Int) ≤ (text.size : Int) := by omega
      clear HS3 HM2 HI
      by_cases hl : 64 < key.size
      · have hlI : (64 : Int) < (key.size : Int) := by omega
        go_wp2_with (refine wl_bs1 (by rfl) ?_; intro v1 s1 hb1 hz1; refine Hid.out ?_)
        replace g5 := g5.kept hb1
        replace g6 := g6.kept hb1
        replace hB := hB.trans (hb1.mono hB.size)
        clear hb1 hz1
        refine Hid.mk ?_
        go_wp2_with fail
        refine (HKY.out _ _ (HTW.out _ hB) s1).mono ?_
        rintro e v2 ⟨rfl, hb2⟩
        replace g5 := g5.kept hb2
        replace g6 := g6.kept hb2
        replace hB := hB.trans (hb2.mono hB.size)
        clear hb2 s1
        go_wp2_with (refine wl_bs1 (by rfl) ?_; intro v4 s4 hb4 hz4; refine Hid.out ?_)
        replace g5 := g5.kept hb4
        replace g6 := g6.kept hb4
        replace hB := hB.trans (hb4.mono hB.size)
        clear hb4 hz4
        refine Hid.mk ?_
        go_wp2_with fail
        refine (HSK.out _ _ (HTW.out _ hB) s4).mono ?_
        rintro e v5 ⟨rfl, hb5⟩
        replace g5 := g5.kept hb5
        replace g6 := g6.kept hb5
        replace hB := hB.trans (hb5.mono hB.size)
        clear hb5 s4
        have gn := fun o (ho : o = Obj.cells (WA .u8 32 fun _ => 0) 23 (0, 0)) => (by rw [ho]; exact heap_alloc_new v5 _ : ArrAt (v5.alloc o) v5.heap.size .u8 23 32 (fun _ => 0))
        have HBS := Hid.mk hB.size
        have hzg5 := g5.lt
        have hzg6 := g6.lt
        go_wp2_with (refine st_arr isArr32 (gn _ rfl) (by rfl) (by rfl) ?_; intro vk g11 ok; refine Hid.out ?_)
        replace hB := (hB.alloc HBS.out _).trans (ok.below HBS.out)
        have hb11w : w.heap.size ≤ v5.heap.size := HBS.out
        replace g5 := (g5.alloc _).only ok (by omega)
        replace g6 := (g6.alloc _).only ok (by omega)
        clear ok gn HBS
        generalize v5.heap.size = b11 at *
        refine Hid.mk ?_
        have hcv := str_back 32 b11 32 vk 32 (sumF key) g11.row (fun j _ => sumF_b key j) rfl
        have HKM : Hid (keyM key = mkS 32 (sumF key)) := Hid.mk (by unfold keyM; rw [if_pos hl])
        rw [HKM.out] at HMF
        generalize mkS 32 (sumF key) = kk at *
        have hz11 := g11.lt
        go_wp2_with (refine wl_makeB (n := 64) (by rfl) (by rfl) (by omega) ?_; intro v6 gc5 hb6; refine Hid.out ?_)
        have hz5 := g5.lt
        have hz6 := g6.lt
        replace g5 := g5.kept hb6
        replace g6 := g6.kept hb6
        replace hB := hB.trans (hb6.mono hB.size)
        clear hb6
        refine Hid.mk ?_
        go_wp2_with (refine wl_makeB (n := 64) (by rfl) (by rfl) (by omega) ?_; intro v7 gc6 hb7; refine Hid.out ?_)
        have hzc := gc5.lt
        replace g5 := g5.kept hb7
        replace g6 := g6.kept hb7
        replace gc5 := gc5.kept hb7
        replace hB := hB.trans (hb7.mono hB.size)
        clear hb7
        refine Hid.mk ?_
        generalize v6.heap.size = c6 at *
        generalize vk.heap.size = c5 at *
        
        go_wp2_with fail
        go_loopg [14] 64 (fun gm iv v => ∃ i : Nat, Hid (gm + i = 64) ∧ iv = .int .i64 (i : Int) ∧ ArrAt v b5 .u8 23 32 A ∧ ArrAt v b6 .u8 23 32 M ∧ ArrAt v c5 .u8 5 64 (halfK kk 54 i) ∧ ArrAt v c6 .u8 5 64 (halfK kk 92 i) ∧ Below w.heap.size w v)
        case atStart => exact ⟨0, Hid.mk rfl, rfl, g5, g6, gc5.congr (fun j _ => by unfold halfK; rw [if_neg (by omega)]), gc6.congr (fun j _ => by unfold halfK; rw [if_neg (by omega)]), hB⟩
        case round =>
          clear g5 g6 gc5 gc6 hB
          obtain ⟨i, HI, rfl, g5, g6, gc5, gc6, hB⟩ := hrel
          have hi64 : i ≤ 64 := by have := HI.out; omega
          by_cases hil : i < 64
          · have k5 := gc5.cell i hil
            have f5 := gc5.free i
            have n5 := gc5.set i 54 hil
            have o5 : Only c5 wr _ := only_set (w := wr) (g := c5) (i := i) (v := .int .u8 54)
            have gc6n := gc6.only o5 (by omega)
            have k6 := gc6n.cell i hil
            have f6 := gc6n.free i
            have n6 := gc6n.set i 92 hil
            have o6 : Only c6 (wr.setCell ⟨c5, i, none⟩ (.int .u8 54)) _ := only_set (w := wr.setCell ⟨c5, i, none⟩ (.int .u8 54)) (g := c6) (i := i) (v := .int .u8 92)
            have HN5 := Hid.mk (n5.only o6 (by omega))
            have HN6 := Hid.mk n6
            have HG5 := Hid.mk ((g5.only o5 (by omega)).only o6 (by omega))
            have HG6 := Hid.mk ((g6.only o5 (by omega)).only o6 (by omega))
            have HNB := Hid.mk ((hB.trans (o5.below (by omega))).trans (o6.below (by omega)))
            clear n5 n6 o5 o6 gc5 gc6 g5 g6 hB gc6n
            by_cases hik : i < kk.size
            · have hikI : (i : Int) < (kk.size : Int) := by omega
              have e5 : bits .xor .u8 54 ((kk[i].toNat : Nat) : Int) = xorw (txt kk i) 54 := by rw [txt_get hik, xorw_comm]; exact u8_xor _ _ (by omega) (by omega) (txt_b kk i).1 (txt_b kk i).2
              have e6 : bits .xor .u8 92 ((kk[i].toNat : Nat) : Int) = xorw (txt kk i) 92 := by rw [txt_get hik, xorw_comm]; exact u8_xor _ _ (by omega) (by omega) (txt_b kk i).1 (txt_b kk i).2
              go_wp2_with fail
              refine wp_gen (fun v => ArrAt v b5 .u8 23 32 A ∧ ArrAt v b6 .u8 23 32 M ∧ ArrAt v c5 .u8 5 64 (upd (halfK kk 54 i) i 54) ∧ ArrAt v c6 .u8 5 64 (upd (halfK kk 92 i) i 92) ∧ Below w.heap.size w v) ⟨HG5.out, HG6.out, HN5.out, HN6.out, HNB.out⟩ ?_
              clear HN5 HN6 HG5 HG6 HNB k5 k6 f5 f6
              rintro v0 ⟨g5, g6, gc5, gc6, hB⟩
              have k5 := gc5.cell i hil
              rw [show upd (halfK kk 54 i) i 54 i = 54 by unfold upd; rw [if_pos rfl]] at k5
              have f5 := gc5.free i
              have HN5 := Hid.mk ((gc5.set i (xorw (txt kk i) 54) hil).congr (s' := halfK kk 54 (i + 1)) (by rw [upd_upd]; exact halfK_next kk 54 i rfl))
              have o5 : Only c5 v0 _ := only_set (w := v0) (g := c5) (i := i) (v := .int .u8 (xorw (txt kk i) 54))
              have HG5 := Hid.mk (g5.only o5 (by omega))
              have HG6 := Hid.mk (g6.only o5 (by omega))
              have HC6 := Hid.mk (gc6.only o5 (by omega))
              have HNB := Hid.mk (hB.trans (o5.below (by omega)))
              clear g5 g6 gc5 gc6 hB o5
              generalize xorw (txt kk i) 54 = x5 at *
              go_region
              go_wp2_with fail
              refine wp_gen (fun v => ArrAt v b5 .u8 23 32 A ∧ ArrAt v b6 .u8 23 32 M ∧ ArrAt v c5 .u8 5 64 (halfK kk 54 (i + 1)) ∧ ArrAt v c6 .u8 5 64 (upd (halfK kk 92 i) i 92) ∧ Below w.heap.size w v) ⟨HG5.out, HG6.out, HN5.out, HC6.out, by first | exact HNB.out.drew | exact HNB.out⟩ ?_
              clear HN5 HC6 HG5 HG6 HNB k5 f5 e5
              rintro v8 ⟨g5, g6, gc5, gc6, hB⟩
              have k6 := gc6.cell i hil
              rw [show upd (halfK kk 92 i) i 92 i = 92 by unfold upd; rw [if_pos rfl]] at k6
              have f6 := gc6.free i
              have HN6 := Hid.mk ((gc6.set i (xorw (txt kk i) 92) hil).congr (s' := halfK kk 92 (i + 1)) (by rw [upd_upd]; exact halfK_next kk 92 i rfl))
              have o6 : Only c6 v8 _ := only_set (w := v8) (g := c6) (i := i) (v := .int .u8 (xorw (txt kk i) 92))
              have HG5 := Hid.mk (g5.only o6 (by omega))
              have HG6 := Hid.mk (g6.only o6 (by omega))
              have HC5 := Hid.mk (gc5.only o6 (by omega))
              have HNB := Hid.mk (hB.trans (o6.below (by omega)))
              clear g5 g6 gc5 gc6 hB o6
              generalize xorw (txt kk i) 92 = x6 at *
              go_region
              go_wp2_with fail
              go_roundg (64 - (i + 1))
              case rel => exact ⟨i + 1, Hid.mk (by omega), by go_num, HG5.out, HG6.out, HC5.out, HN6.out, by first | exact HNB.out.drew | exact HNB.out⟩
              case measure => have := HI.out; omega
            · have hikI : ¬ (i : Int) < (kk.size : Int) := by omega
              have hz0 := txt_beyond kk i (by omega)
              have HM5 : Hid (∀ j, j < 64 → upd (halfK kk 54 i) i 54 j = halfK kk 54 (i + 1) j) := Hid.mk (fun j hj => by
                have h := halfK_next kk 54 i rfl j hj
                rw [hz0] at h
                exact h)
              have HM6 : Hid (∀ j, j < 64 → upd (halfK kk 92 i) i 92 j = halfK kk 92 (i + 1) j) := Hid.mk (fun j hj => by
                have h := halfK_next kk 92 i rfl j hj
                rw [hz0] at h
                exact h)
              clear hz0
              go_wp2_with fail
              go_roundg (64 - (i + 1))
              case rel => exact ⟨i + 1, Hid.mk (by omega), by go_num, HG5.out, HG6.out, HN5.out.congr HM5.out, HN6.out.congr HM6.out, HNB.out⟩
              case measure => have := HI.out; omega
          · have hi2 : i = 64 := by omega
            subst hi2
            replace gc5 := gc5.congr (s' := padK kk 54) (fun j hj => by unfold halfK; rw [if_pos hj])
            replace gc6 := gc6.congr (s' := padK kk 92) (fun j hj => by unfold halfK; rw [if_pos hj])
            clear hil hi64 HI
            have hcv5 := str_back 64 c5 64 wr 64 (padK kk 54) gc5.row (fun j _ => padK_b (by omega) j) rfl
            have HIN : Hid (∀ sv u, Tabs u → Strs u sv 2 (two2 (mkS 64 (padK kk 54)) text) → Calls Tryd.prog 8 #[sv] u fun e w' => e = .returned (.agg (WA .u8 32 (sumF (mkS 64 (padK kk 54) ++ text)))) ∧ Below u.heap.size u w') := Hid.mk (fun sv u hT hs => by
              have h := Sum_run sv 2 _ u hT hs (by omega) (by rw [join2, ByteArray.size_append, mkS_size]; omega)
              rw [join2] at h
              exact h)
            have HIB := Hid.mk (sumF_b (mkS 64 (padK kk 54) ++ text))
            generalize sumF (mkS 64 (padK kk 54) ++ text) = I at *
            have HOUT : Hid (∀ sv u, Tabs u → Strs u sv 2 (two2 (mkS 64 (padK kk 92)) (mkS 32 I)) → Calls Tryd.prog 8 #[sv] u fun e w' => e = .returned (.agg (WA .u8 32 M)) ∧ Below u.heap.size u w') := Hid.mk (fun sv u hT hs => by
              have h := Sum_run sv 2 _ u hT hs (by omega) (by rw [join2, ByteArray.size_append, mkS_size, mkS_size]; omega)
              rw [join2, HMF.out] at h
              exact h)
            go_wp2_with (refine wl_bs2 (by rfl) (by rfl) ?_; intro v4 s4 hb4 hz4; refine Hid.out ?_)
            replace g5 := g5.kept hb4
            replace g6 := g6.kept hb4
            replace gc6 := gc6.kept hb4
            replace hB := hB.trans (hb4.mono hB.size)
            clear hb4 hz4 gc5 hcv5
            refine Hid.mk ?_
            go_wp2_with fail
            refine (HIN.out _ _ (HTW.out _ hB) s4).mono ?_
            rintro e v5 ⟨rfl, hb5⟩
            replace g5 := g5.kept hb5
            replace g6 := g6.kept hb5
            replace gc6 := gc6.kept hb5
            replace hB := hB.trans (hb5.mono hB.size)
            clear hb5 s4
            have gn := fun o (ho : o = Obj.cells (WA .u8 32 fun _ => 0) 23 (0, 0)) => (by rw [ho]; exact heap_alloc_new v5 _ : ArrAt (v5.alloc o) v5.heap.size .u8 23 32 (fun _ => 0))
            have HBS := Hid.mk hB.size
            have hzg5 := g5.lt
            have hzg6 := g6.lt
            have hzgc6 := gc6.lt
            go_wp2_with (refine st_arr isArr32 (gn _ rfl) (by rfl) (by rfl) ?_; intro vh gh ok; refine Hid.out ?_)
            replace hB := (hB.alloc HBS.out _).trans (ok.below HBS.out)
            have hbhw : w.heap.size ≤ v5.heap.size := HBS.out
            replace g5 := (g5.alloc _).only ok (by omega)
            replace g6 := (g6.alloc _).only ok (by omega)
            replace gc6 := (gc6.alloc _).only ok (by omega)
            clear ok gn HBS
            generalize v5.heap.size = bh at *
            refine Hid.mk ?_
            go_wp2_with fail
            refine wp_gen (fun v => ArrAt v b5 .u8 23 32 A ∧ ArrAt v b6 .u8 23 32 M ∧ ArrAt v c6 .u8 5 64 (padK kk 92) ∧ ArrAt v bh .u8 23 32 I ∧ Below w.heap.size w v) ⟨g5, g6, gc6, gh, hB⟩ ?_
            clear g5 g6 gc6 gh hB
            rintro v0 ⟨g5, g6, gc6, gh, hB⟩
            have HG5 : Hid (∀ u, Below v0.heap.size v0 u → ArrAt u b5 .u8 23 32 A) := Hid.mk (fun u hu => g5.kept hu)
            have HG6 : Hid (∀ u, Below v0.heap.size v0 u → ArrAt u b6 .u8 23 32 M) := Hid.mk (fun u hu => g6.kept hu)
            have HC6 : Hid (∀ u, Below v0.heap.size v0 u → ArrAt u c6 .u8 5 64 (padK kk 92)) := Hid.mk (fun u hu => gc6.kept hu)
            have HBH : Hid (∀ u, Below v0.heap.size v0 u → ArrAt u bh .u8 23 32 I) := Hid.mk (fun u hu => gh.kept hu)
            have HT : Hid (∀ u, Below v0.heap.size v0 u → Tabs u) := Hid.mk (fun u hu => HTW.out u (hB.trans (hu.mono hB.size)))
            refine wp_region3 (Below v0.heap.size v0) v0.heap.size
              ([] : List (Nat × Cont))
              [kv (.string (mkS 32 A)), kv (.slice (some ⟨b5, 0, none⟩) 32 32), kv (.string (mkS 32 A)), kv (.bool true), kv (.bool true), kv (.int .i64 0), kv (.bool true), kv (.bool true), kv (.bool true), kv (.slice (some ⟨c6, 0, none⟩) 64 64), kv (.string (mkS 64 (padK kk 92))), kv (.slice (some ⟨bh, 0, none⟩) 32 32), kv (.string (mkS 32 I)), .new (slTo 2) ⟨fun ob => ob = .cells #[.string (mkS 64 (padK kk 92)), .string (mkS 32 I)] 9 (0, 0), []⟩, kv (.agg (WA .u8 32 M)), kv (.agg (WA .u8 32 M)), kv (.bool true), kv (.bool true), kv (.bool true), kv (.bool true), kv (.bool true), kv (.bool true)]
              [.none, .none, .none, .none, .none, .none, .none, .none, .none, .none, .none, .none, .none, .none, .none, .none, .none, .none, .none, .none, .none, .none]
              [some 118, some 119, some 120, some 121, some 122, some 123, some 124, some 125, some 126, some 127, some 128, some 129, some 130, some 131, some 132, some 133, some 134, some 135, some 136, some 137, some 138, some 4]
              [(8, .string (mkS 32 A)), (5, .pointer (some ⟨b5, 0, none⟩)), (9, .int .i64 0), (13, .slice (some ⟨c6, 0, none⟩) 64 64), (15, .pointer (some ⟨bh, 0, none⟩)), (6, .pointer (some ⟨b6, 0, none⟩))]
              [[], [], [.slot 1], [.slot 0, .slot 2], [.slot 3], [.slot 4], [.slot 4, .slot 5], [.slot 4, .slot 6], [.slot 7], [.slot 8], [.slot 8, .slot 9], [.slot 8], [.slot 8, .slot 11], [.slot 8, .slot 10, .slot 12], [.slot 8, .slot 13, .cont 13 0], [.slot 8], [.slot 8, .slot 14, .slot 15], [.slot 8, .slot 16], [.slot 17], [.slot 18], [.slot 18, .slot 19], [.slot 20]]
              [.slot 21] [118, 119, 120, 121, 122, 123, 124, 125, 126, 127, 128, 129, 130, 131, 132, 133, 134, 135, 136, 137, 138, 4]
              rfl (by kernel_rfl) ⟨rfl, rfl, rfl, rfl, rfl, rfl, trivial⟩ (Below.refl _ v0).drew (Nat.le_refl _) trivial trivial (below_G (Nat.le_refl _) trivial)
              ⟨
                -- 0
                (fun Q aq ww own hS hBg fr kn => .inl ⟨trivial, fun K hK => wp_value (exec_move rfl fr.1) (hK _ _ ⟨Touch.refl _ _, rfl⟩)⟩),
                -- 1
                (fun Q aq ww own hS hBg fr kn => .inl ⟨trivial, fun K hK => wp_value (exec_sl (v := .pointer (some ⟨b5, 0, none⟩)) rfl fr.2.1 (sl32w b5 ww)) (hK _ _ ⟨Touch.refl _ _, rfl⟩)⟩),
                -- 2
                (fun Q aq ww own hS hBg fr kn => .inl ⟨trivial, fun K hK => wp_value (exec_conv rfl kn.1 (str_back 32 b5 32 ww 32 A (ArrAt.row (HG5.out ww hS)) (fun j _ => HAB.out j) rfl)) (hK _ _ ⟨Touch.refl _ _, rfl⟩)⟩),
                -- 3
                (fun Q aq ww own hS hBg fr kn => .inl ⟨trivial, fun K hK => wp_value (exec_eqS rfl kn.1 kn.2.1) (hK _ _ ⟨Touch.refl _ _, rfl⟩)⟩),
                -- 4
                (fun Q aq ww own hS hBg fr kn => .inl ⟨trivial, fun K hK => wp_value (exec_move rfl kn.1) (hK _ _ ⟨Touch.refl _ _, rfl⟩)⟩),
                -- 5
                (fun Q aq ww own hS hBg fr kn => .inl ⟨kn.1, fun K hK => wp_value (exec_move rfl fr.2.2.1) (hK _ _ ⟨Touch.refl _ _, rfl⟩)⟩),
                -- 6
                (fun Q aq ww own hS hBg fr kn => .inl ⟨kn.1, fun K hK => wp_value (exec_eqE rfl kn.2.1 rfl) (hK _ _ ⟨Touch.refl _ _, rfl⟩)⟩),
                -- 7
                (fun Q aq ww own hS hBg fr kn => .inl ⟨trivial, fun K hK => wp_value (exec_pick rfl kn.1 kn.2.1) (hK _ _ ⟨Touch.refl _ _, rfl⟩)⟩),
                -- 8
                (fun Q aq ww own hS hBg fr kn => .inl ⟨trivial, fun K hK => wp_value (exec_move rfl kn.1) (hK _ _ ⟨Touch.refl _ _, rfl⟩)⟩),
                -- 9
                (fun Q aq ww own hS hBg fr kn => .inl ⟨kn.1, fun K hK => wp_value (exec_move rfl fr.2.2.2.1) (hK _ _ ⟨Touch.refl _ _, rfl⟩)⟩),
                -- 10
                (fun Q aq ww own hS hBg fr kn => .inl ⟨kn.1, fun K hK => wp_value (exec_conv rfl kn.2.1 (str_back 64 c6 64 ww 64 _ (ArrAt.row (HC6.out ww hS)) (fun j _ => padK_b (by omega) j) rfl)) (hK _ _ ⟨Touch.refl _ _, rfl⟩)⟩),
                -- 11
                (fun Q aq ww own hS hBg fr kn => .inl ⟨kn.1, fun K hK => wp_value (exec_sl (v := .pointer (some ⟨bh, 0, none⟩)) rfl fr.2.2.2.2.1 (sl32w bh ww)) (hK _ _ ⟨Touch.refl _ _, rfl⟩)⟩),
                -- 12
                (fun Q aq ww own hS hBg fr kn => .inl ⟨kn.1, fun K hK => wp_value (exec_conv rfl kn.2.1 (str_back 32 bh 32 ww 32 I (ArrAt.row (HBH.out ww hS)) (fun j _ => HIB.out j) rfl)) (hK _ _ ⟨Touch.refl _ _, rfl⟩)⟩),
                -- 13
                (fun Q aq ww own hS hBg fr kn => .inl ⟨kn.1, fun K hK => act_bs2 rfl kn.2.1 kn.2.2.1 (fun v hg hb => hK _ _ ⟨touch_below hb, _, Nat.le_refl _, rfl, ⟨_, hg, rfl⟩⟩)⟩),
                -- 14
                (fun Q aq ww own hS hBg fr kn => .inl ⟨kn.1, fun K hK => stepc enterSumc rfl (args1 kn.2.1.1) (HOUT.out _ ww (HT.out ww hS) (strsC2 kn.2.2.1)) (fun w' hb => hK _ _ ⟨touch_below hb, rfl⟩)⟩),
                -- 15
                (fun Q aq ww own hS hBg fr kn => .inl ⟨kn.1, fun K hK => wp_value (look_arr rfl isArr32 (HG6.out ww hS) fr.2.2.2.2.2.1) (hK _ _ ⟨Touch.refl _ _, rfl⟩)⟩),
                -- 16
                (fun Q aq ww own hS hBg fr kn => .inl ⟨kn.1, fun K hK => wp_value (eql_WA rfl Tryd.underlying23 eqG32 kn.2.1 kn.2.2.1) (hK _ _ ⟨Touch.refl _ _, rfl⟩)⟩),
                -- 17
                (fun Q aq ww own hS hBg fr kn => .inl ⟨trivial, fun K hK => wp_value (exec_pick rfl kn.1 kn.2.1) (hK _ _ ⟨Touch.refl _ _, rfl⟩)⟩),
                -- 18
                (fun Q aq ww own hS hBg fr kn => .inl ⟨trivial, fun K hK => wp_value (exec_move rfl kn.1) (hK _ _ ⟨Touch.refl _ _, rfl⟩)⟩),
                -- 19
                (fun Q aq ww own hS hBg fr kn => .inl ⟨kn.1, fun K hK => stepc enterAwakeB rfl (args0) (awake_run ww (HT.out ww hS)) (fun w' hb => hK _ _ ⟨touch_below hb, rfl⟩)⟩),
                -- 20
                (fun Q aq ww own hS hBg fr kn => .inl ⟨trivial, fun K hK => wp_value (exec_pick rfl kn.1 kn.2.1) (hK _ _ ⟨Touch.refl _ _, rfl⟩)⟩),
                -- 21
                (fun Q aq ww own hS hBg fr kn => .inl ⟨trivial, fun K hK => wp_value (exec_assign rfl kn.1) (hK _ _ ⟨Touch.refl _ _, rfl⟩)⟩),
                trivial⟩ ?_
            intro vs own v9 hB9 hs9 kn inj
            clear inj hs9
            have e4 : vs 4 = .bool true := kn.1
            clear kn
            simp only [putAll, Act.put, List.setIfInBounds_toArray, List.set_cons_zero, List.set_cons_succ, e4]
            go_wp2_with fail
            go_ret
            exact ⟨rfl, hB.trans (hB9.mono hB.size)⟩
      · have hlI : ¬ (64 : Int) < (key.size : Int) := by omega
        go_wp2_with (refine wl_bs1 (by rfl) ?_; intro v1 s1 hb1 hz1; refine Hid.out ?_)
        replace g5 := g5.kept hb1
        replace g6 := g6.kept hb1
        replace hB := hB.trans (hb1.mono hB.size)
        clear hb1 hz1
        refine Hid.mk ?_
        go_wp2_with fail
        refine (HKY.out _ _ (HTW.out _ hB) s1).mono ?_
        rintro e v2 ⟨rfl, hb2⟩
        replace g5 := g5.kept hb2
        replace g6 := g6.kept hb2
        replace hB := hB.trans (hb2.mono hB.size)
        clear hb2 s1
        obtain ⟨kk, hkk⟩ : ∃ kk, kk = key := ⟨_, rfl⟩
        have HKM : Hid (keyM key = kk) := Hid.mk (by rw [hkk]; unfold keyM; rw [if_neg hl])
        rw [HKM.out] at HMF
        have HKK := Hid.mk hkk
        clear hkk
        go_wp2_with (refine wl_makeB (n := 64) (by rfl) (by rfl) (by omega) ?_; intro v6 gc5 hb6; refine Hid.out ?_)
        have hz5 := g5.lt
        have hz6 := g6.lt
        replace g5 := g5.kept hb6
        replace g6 := g6.kept hb6
        replace hB := hB.trans (hb6.mono hB.size)
        clear hb6
        refine Hid.mk ?_
        go_wp2_with (refine wl_makeB (n := 64) (by rfl) (by rfl) (by omega) ?_; intro v7 gc6 hb7; refine Hid.out ?_)
        have hzc := gc5.lt
        replace g5 := g5.kept hb7
        replace g6 := g6.kept hb7
        replace gc5 := gc5.kept hb7
        replace hB := hB.trans (hb7.mono hB.size)
        clear hb7
        refine Hid.mk ?_
        generalize v6.heap.size = c6 at *
        generalize v2.heap.size = c5 at *
        rw [← HKK.out]
        go_wp2_with fail
        go_loopg [14] 64 (fun gm iv v => ∃ i : Nat, Hid (gm + i = 64) ∧ iv = .int .i64 (i : Int) ∧ ArrAt v b5 .u8 23 32 A ∧ ArrAt v b6 .u8 23 32 M ∧ ArrAt v c5 .u8 5 64 (halfK kk 54 i) ∧ ArrAt v c6 .u8 5 64 (halfK kk 92 i) ∧ Below w.heap.size w v)
        case atStart => exact ⟨0, Hid.mk rfl, rfl, g5, g6, gc5.congr (fun j _ => by unfold halfK; rw [if_neg (by omega)]), gc6.congr (fun j _ => by unfold halfK; rw [if_neg (by omega)]), hB⟩
        case round =>
          clear g5 g6 gc5 gc6 hB
          obtain ⟨i, HI, rfl, g5, g6, gc5, gc6, hB⟩ := hrel
          have hi64 : i ≤ 64 := by have := HI.out; omega
          by_cases hil : i < 64
          · have k5 := gc5.cell i hil
            have f5 := gc5.free i
            have n5 := gc5.set i 54 hil
            have o5 : Only c5 wr _ := only_set (w := wr) (g := c5) (i := i) (v := .int .u8 54)
            have gc6n := gc6.only o5 (by omega)
            have k6 := gc6n.cell i hil
            have f6 := gc6n.free i
            have n6 := gc6n.set i 92 hil
            have o6 : Only c6 (wr.setCell ⟨c5, i, none⟩ (.int .u8 54)) _ := only_set (w := wr.setCell ⟨c5, i, none⟩ (.int .u8 54)) (g := c6) (i := i) (v := .int .u8 92)
            have HN5 := Hid.mk (n5.only o6 (by omega))
            have HN6 := Hid.mk n6
            have HG5 := Hid.mk ((g5.only o5 (by omega)).only o6 (by omega))
            have HG6 := Hid.mk ((g6.only o5 (by omega)).only o6 (by omega))
            have HNB := Hid.mk ((hB.trans (o5.below (by omega))).trans (o6.below (by omega)))
            clear n5 n6 o5 o6 gc5 gc6 g5 g6 hB gc6n
            by_cases hik : i < kk.size
            · have hikI : (i : Int) < (kk.size : Int) := by omega
              have e5 : bits .xor .u8 54 ((kk[i].toNat : Nat) : Int) = xorw (txt kk i) 54 := by rw [txt_get hik, xorw_comm]; exact u8_xor _ _ (by omega) (by omega) (txt_b kk i).1 (txt_b kk i).2
              have e6 : bits .xor .u8 92 ((kk[i].toNat : Nat) : Int) = xorw (txt kk i) 92 := by rw [txt_get hik, xorw_comm]; exact u8_xor _ _ (by omega) (by omega) (txt_b kk i).1 (txt_b kk i).2
              go_wp2_with fail
              refine wp_gen (fun v => ArrAt v b5 .u8 23 32 A ∧ ArrAt v b6 .u8 23 32 M ∧ ArrAt v c5 .u8 5 64 (upd (halfK kk 54 i) i 54) ∧ ArrAt v c6 .u8 5 64 (upd (halfK kk 92 i) i 92) ∧ Below w.heap.size w v) ⟨HG5.out, HG6.out, HN5.out, HN6.out, HNB.out⟩ ?_
              clear HN5 HN6 HG5 HG6 HNB k5 k6 f5 f6
              rintro v0 ⟨g5, g6, gc5, gc6, hB⟩
              have k5 := gc5.cell i hil
              rw [show upd (halfK kk 54 i) i 54 i = 54 by unfold upd; rw [if_pos rfl]] at k5
              have f5 := gc5.free i
              have HN5 := Hid.mk ((gc5.set i (xorw (txt kk i) 54) hil).congr (s' := halfK kk 54 (i + 1)) (by rw [upd_upd]; exact halfK_next kk 54 i rfl))
              have o5 : Only c5 v0 _ := only_set (w := v0) (g := c5) (i := i) (v := .int .u8 (xorw (txt kk i) 54))
              have HG5 := Hid.mk (g5.only o5 (by omega))
              have HG6 := Hid.mk (g6.only o5 (by omega))
              have HC6 := Hid.mk (gc6.only o5 (by omega))
              have HNB := Hid.mk (hB.trans (o5.below (by omega)))
              clear g5 g6 gc5 gc6 hB o5
              generalize xorw (txt kk i) 54 = x5 at *
              go_region
              go_wp2_with fail
              refine wp_gen (fun v => ArrAt v b5 .u8 23 32 A ∧ ArrAt v b6 .u8 23 32 M ∧ ArrAt v c5 .u8 5 64 (halfK kk 54 (i + 1)) ∧ ArrAt v c6 .u8 5 64 (upd (halfK kk 92 i) i 92) ∧ Below w.heap.size w v) ⟨HG5.out, HG6.out, HN5.out, HC6.out, by first | exact HNB.out.drew | exact HNB.out⟩ ?_
              clear HN5 HC6 HG5 HG6 HNB k5 f5 e5
              rintro v8 ⟨g5, g6, gc5, gc6, hB⟩
              have k6 := gc6.cell i hil
              rw [show upd (halfK kk 92 i) i 92 i = 92 by unfold upd; rw [if_pos rfl]] at k6
              have f6 := gc6.free i
              have HN6 := Hid.mk ((gc6.set i (xorw (txt kk i) 92) hil).congr (s' := halfK kk 92 (i + 1)) (by rw [upd_upd]; exact halfK_next kk 92 i rfl))
              have o6 : Only c6 v8 _ := only_set (w := v8) (g := c6) (i := i) (v := .int .u8 (xorw (txt kk i) 92))
              have HG5 := Hid.mk (g5.only o6 (by omega))
              have HG6 := Hid.mk (g6.only o6 (by omega))
              have HC5 := Hid.mk (gc5.only o6 (by omega))
              have HNB := Hid.mk (hB.trans (o6.below (by omega)))
              clear g5 g6 gc5 gc6 hB o6
              generalize xorw (txt kk i) 92 = x6 at *
              go_region
              go_wp2_with fail
              go_roundg (64 - (i + 1))
              case rel => exact ⟨i + 1, Hid.mk (by omega), by go_num, HG5.out, HG6.out, HC5.out, HN6.out, by first | exact HNB.out.drew | exact HNB.out⟩
              case measure => have := HI.out; omega
            · have hikI : ¬ (i : Int) < (kk.size : Int) := by omega
              have hz0 := txt_beyond kk i (by omega)
              have HM5 : Hid (∀ j, j < 64 → upd (halfK kk 54 i) i 54 j = halfK kk 54 (i + 1) j) := Hid.mk (fun j hj => by
                have h := halfK_next kk 54 i rfl j hj
                rw [hz0] at h
                exact h)
              have HM6 : Hid (∀ j, j < 64 → upd (halfK kk 92 i) i 92 j = halfK kk 92 (i + 1) j) := Hid.mk (fun j hj => by
                have h := halfK_next kk 92 i rfl j hj
                rw [hz0] at h
                exact h)
              clear hz0
              go_wp2_with fail
              go_roundg (64 - (i + 1))
              case rel => exact ⟨i + 1, Hid.mk (by omega), by go_num, HG5.out, HG6.out, HN5.out.congr HM5.out, HN6.out.congr HM6.out, HNB.out⟩
              case measure => have := HI.out; omega
          · have hi2 : i = 64 := by omega
            subst hi2
            replace gc5 := gc5.congr (s' := padK kk 54) (fun j hj => by unfold halfK; rw [if_pos hj])
            replace gc6 := gc6.congr (s' := padK kk 92) (fun j hj => by unfold halfK; rw [if_pos hj])
            clear hil hi64 HI
            have hcv5 := str_back 64 c5 64 wr 64 (padK kk 54) gc5.row (fun j _ => padK_b (by omega) j) rfl
            have HIN : Hid (∀ sv u, Tabs u → Strs u sv 2 (two2 (mkS 64 (padK kk 54)) text) → Calls Tryd.prog 8 #[sv] u fun e w' => e = .returned (.agg (WA .u8 32 (sumF (mkS 64 (padK kk 54) ++ text)))) ∧ Below u.heap.size u w') := Hid.mk (fun sv u hT hs => by
              have h := Sum_run sv 2 _ u hT hs (by omega) (by rw [join2, ByteArray.size_append, mkS_size]; omega)
              rw [join2] at h
              exact h)
            have HIB := Hid.mk (sumF_b (mkS 64 (padK kk 54) ++ text))
            generalize sumF (mkS 64 (padK kk 54) ++ text) = I at *
            have HOUT : Hid (∀ sv u, Tabs u → Strs u sv 2 (two2 (mkS 64 (padK kk 92)) (mkS 32 I)) → Calls Tryd.prog 8 #[sv] u fun e w' => e = .returned (.agg (WA .u8 32 M)) ∧ Below u.heap.size u w') := Hid.mk (fun sv u hT hs => by
              have h := Sum_run sv 2 _ u hT hs (by omega) (by rw [join2, ByteArray.size_append, mkS_size, mkS_size]; omega)
              rw [join2, HMF.out] at h
              exact h)
            go_wp2_with (refine wl_bs2 (by rfl) (by rfl) ?_; intro v4 s4 hb4 hz4; refine Hid.out ?_)
            replace g5 := g5.kept hb4
            replace g6 := g6.kept hb4
            replace gc6 := gc6.kept hb4
            replace hB := hB.trans (hb4.mono hB.size)
            clear hb4 hz4 gc5 hcv5
            refine Hid.mk ?_
            go_wp2_with fail
            refine (HIN.out _ _ (HTW.out _ hB) s4).mono ?_
            rintro e v5 ⟨rfl, hb5⟩
            replace g5 := g5.kept hb5
            replace g6 := g6.kept hb5
            replace gc6 := gc6.kept hb5
            replace hB := hB.trans (hb5.mono hB.size)
            clear hb5 s4
            have gn := fun o (ho : o = Obj.cells (WA .u8 32 fun _ => 0) 23 (0, 0)) => (by rw [ho]; exact heap_alloc_new v5 _ : ArrAt (v5.alloc o) v5.heap.size .u8 23 32 (fun _ => 0))
            have HBS := Hid.mk hB.size
            have hzg5 := g5.lt
            have hzg6 := g6.lt
            have hzgc6 := gc6.lt
            go_wp2_with (refine st_arr isArr32 (gn _ rfl) (by rfl) (by rfl) ?_; intro vh gh ok; refine Hid.out ?_)
            replace hB := (hB.alloc HBS.out _).trans (ok.below HBS.out)
            have hbhw : w.heap.size ≤ v5.heap.size := HBS.out
            replace g5 := (g5.alloc _).only ok (by omega)
            replace g6 := (g6.alloc _).only ok (by omega)
            replace gc6 := (gc6.alloc _).only ok (by omega)
            clear ok gn HBS
            generalize v5.heap.size = bh at *
            refine Hid.mk ?_
            go_wp2_with fail
            refine wp_gen (fun v => ArrAt v b5 .u8 23 32 A ∧ ArrAt v b6 .u8 23 32 M ∧ ArrAt v c6 .u8 5 64 (padK kk 92) ∧ ArrAt v bh .u8 23 32 I ∧ Below w.heap.size w v) ⟨g5, g6, gc6, gh, hB⟩ ?_
            clear g5 g6 gc6 gh hB
            rintro v0 ⟨g5, g6, gc6, gh, hB⟩
            have HG5 : Hid (∀ u, Below v0.heap.size v0 u → ArrAt u b5 .u8 23 32 A) := Hid.mk (fun u hu => g5.kept hu)
            have HG6 : Hid (∀ u, Below v0.heap.size v0 u → ArrAt u b6 .u8 23 32 M) := Hid.mk (fun u hu => g6.kept hu)
            have HC6 : Hid (∀ u, Below v0.heap.size v0 u → ArrAt u c6 .u8 5 64 (padK kk 92)) := Hid.mk (fun u hu => gc6.kept hu)
            have HBH : Hid (∀ u, Below v0.heap.size v0 u → ArrAt u bh .u8 23 32 I) := Hid.mk (fun u hu => gh.kept hu)
            have HT : Hid (∀ u, Below v0.heap.size v0 u → Tabs u) := Hid.mk (fun u hu => HTW.out u (hB.trans (hu.mono hB.size)))
            refine wp_region3 (Below v0.heap.size v0) v0.heap.size
              ([] : List (Nat × Cont))
              [kv (.string (mkS 32 A)), kv (.slice (some ⟨b5, 0, none⟩) 32 32), kv (.string (mkS 32 A)), kv (.bool true), kv (.bool true), kv (.int .i64 0), kv (.bool true), kv (.bool true), kv (.bool true), kv (.slice (some ⟨c6, 0, none⟩) 64 64), kv (.string (mkS 64 (padK kk 92))), kv (.slice (some ⟨bh, 0, none⟩) 32 32), kv (.string (mkS 32 I)), .new (slTo 2) ⟨fun ob => ob = .cells #[.string (mkS 64 (padK kk 92)), .string (mkS 32 I)] 9 (0, 0), []⟩, kv (.agg (WA .u8 32 M)), kv (.agg (WA .u8 32 M)), kv (.bool true), kv (.bool true), kv (.bool true), kv (.bool true), kv (.bool true), kv (.bool true)]
              [.none, .none, .none, .none, .none, .none, .none, .none, .none, .none, .none, .none, .none, .none, .none, .none, .none, .none, .none, .none, .none, .none]
              [some 118, some 119, some 120, some 121, some 122, some 123, some 124, some 125, some 126, some 127, some 128, some 129, some 130, some 131, some 132, some 133, some 134, some 135, some 136, some 137, some 138, some 4]
              [(8, .string (mkS 32 A)), (5, .pointer (some ⟨b5, 0, none⟩)), (9, .int .i64 0), (13, .slice (some ⟨c6, 0, none⟩) 64 64), (15, .pointer (some ⟨bh, 0, none⟩)), (6, .pointer (some ⟨b6, 0, none⟩))]
              [[], [], [.slot 1], [.slot 0, .slot 2], [.slot 3], [.slot 4], [.slot 4, .slot 5], [.slot 4, .slot 6], [.slot 7], [.slot 8], [.slot 8, .slot 9], [.slot 8], [.slot 8, .slot 11], [.slot 8, .slot 10, .slot 12], [.slot 8, .slot 13, .cont 13 0], [.slot 8], [.slot 8, .slot 14, .slot 15], [.slot 8, .slot 16], [.slot 17], [.slot 18], [.slot 18, .slot 19], [.slot 20]]
              [.slot 21] [118, 119, 120, 121, 122, 123, 124, 125, 126, 127, 128, 129, 130, 131, 132, 133, 134, 135, 136, 137, 138, 4]
              rfl (by kernel_rfl) ⟨rfl, rfl, rfl, rfl, rfl, rfl, trivial⟩ (Below.refl _ v0).drew (Nat.le_refl _) trivial trivial (below_G (Nat.le_refl _) trivial)
              ⟨
                -- 0
                (fun Q aq ww own hS hBg fr kn => .inl ⟨trivial, fun K hK => wp_value (exec_move rfl fr.1) (hK _ _ ⟨Touch.refl _ _, rfl⟩)⟩),
                -- 1
                (fun Q aq ww own hS hBg fr kn => .inl ⟨trivial, fun K hK => wp_value (exec_sl (v := .pointer (some ⟨b5, 0, none⟩)) rfl fr.2.1 (sl32w b5 ww)) (hK _ _ ⟨Touch.refl _ _, rfl⟩)⟩),
                -- 2
                (fun Q aq ww own hS hBg fr kn => .inl ⟨trivial, fun K hK => wp_value (exec_conv rfl kn.1 (str_back 32 b5 32 ww 32 A (ArrAt.row (HG5.out ww hS)) (fun j _ => HAB.out j) rfl)) (hK _ _ ⟨Touch.refl _ _, rfl⟩)⟩),
                -- 3
                (fun Q aq ww own hS hBg fr kn => .inl ⟨trivial, fun K hK => wp_value (exec_eqS rfl kn.1 kn.2.1) (hK _ _ ⟨Touch.refl _ _, rfl⟩)⟩),
                -- 4
                (fun Q aq ww own hS hBg fr kn => .inl ⟨trivial, fun K hK => wp_value (exec_move rfl kn.1) (hK _ _ ⟨Touch.refl _ _, rfl⟩)⟩),
                -- 5
                (fun Q aq ww own hS hBg fr kn => .inl ⟨kn.1, fun K hK => wp_value (exec_move rfl fr.2.2.1) (hK _ _ ⟨Touch.refl _ _, rfl⟩)⟩),
                -- 6
                (fun Q aq ww own hS hBg fr kn => .inl ⟨kn.1, fun K hK => wp_value (exec_eqE rfl kn.2.1 rfl) (hK _ _ ⟨Touch.refl _ _, rfl⟩)⟩),
                -- 7
                (fun Q aq ww own hS hBg fr kn => .inl ⟨trivial, fun K hK => wp_value (exec_pick rfl kn.1 kn.2.1) (hK _ _ ⟨Touch.refl _ _, rfl⟩)⟩),
                -- 8
                (fun Q aq ww own hS hBg fr kn => .inl ⟨trivial, fun K hK => wp_value (exec_move rfl kn.1) (hK _ _ ⟨Touch.refl _ _, rfl⟩)⟩),
                -- 9
                (fun Q aq ww own hS hBg fr kn => .inl ⟨kn.1, fun K hK => wp_value (exec_move rfl fr.2.2.2.1) (hK _ _ ⟨Touch.refl _ _, rfl⟩)⟩),
                -- 10
                (fun Q aq ww own hS hBg fr kn => .inl ⟨kn.1, fun K hK => wp_value (exec_conv rfl kn.2.1 (str_back 64 c6 64 ww 64 _ (ArrAt.row (HC6.out ww hS)) (fun j _ => padK_b (by omega) j) rfl)) (hK _ _ ⟨Touch.refl _ _, rfl⟩)⟩),
                -- 11
                (fun Q aq ww own hS hBg fr kn => .inl ⟨kn.1, fun K hK => wp_value (exec_sl (v := .pointer (some ⟨bh, 0, none⟩)) rfl fr.2.2.2.2.1 (sl32w bh ww)) (hK _ _ ⟨Touch.refl _ _, rfl⟩)⟩),
                -- 12
                (fun Q aq ww own hS hBg fr kn => .inl ⟨kn.1, fun K hK => wp_value (exec_conv rfl kn.2.1 (str_back 32 bh 32 ww 32 I (ArrAt.row (HBH.out ww hS)) (fun j _ => HIB.out j) rfl)) (hK _ _ ⟨Touch.refl _ _, rfl⟩)⟩),
                -- 13
                (fun Q aq ww own hS hBg fr kn => .inl ⟨kn.1, fun K hK => act_bs2 rfl kn.2.1 kn.2.2.1 (fun v hg hb => hK _ _ ⟨touch_below hb, _, Nat.le_refl _, rfl, ⟨_, hg, rfl⟩⟩)⟩),
                -- 14
                (fun Q aq ww own hS hBg fr kn => .inl ⟨kn.1, fun K hK => stepc enterSumc rfl (args1 kn.2.1.1) (HOUT.out _ ww (HT.out ww hS) (strsC2 kn.2.2.1)) (fun w' hb => hK _ _ ⟨touch_below hb, rfl⟩)⟩),
                -- 15
                (fun Q aq ww own hS hBg fr kn => .inl ⟨kn.1, fun K hK => wp_value (look_arr rfl isArr32 (HG6.out ww hS) fr.2.2.2.2.2.1) (hK _ _ ⟨Touch.refl _ _, rfl⟩)⟩),
                -- 16
                (fun Q aq ww own hS hBg fr kn => .inl ⟨kn.1, fun K hK => wp_value (eql_WA rfl Tryd.underlying23 eqG32 kn.2.1 kn.2.2.1) (hK _ _ ⟨Touch.refl _ _, rfl⟩)⟩),
                -- 17
                (fun Q aq ww own hS hBg fr kn => .inl ⟨trivial, fun K hK => wp_value (exec_pick rfl kn.1 kn.2.1) (hK _ _ ⟨Touch.refl _ _, rfl⟩)⟩),
                -- 18
                (fun Q aq ww own hS hBg fr kn => .inl ⟨trivial, fun K hK => wp_value (exec_move rfl kn.1) (hK _ _ ⟨Touch.refl _ _, rfl⟩)⟩),
                -- 19
                (fun Q aq ww own hS hBg fr kn => .inl ⟨kn.1, fun K hK => stepc enterAwakeB rfl (args0) (awake_run ww (HT.out ww hS)) (fun w' hb => hK _ _ ⟨touch_below hb, rfl⟩)⟩),
                -- 20
                (fun Q aq ww own hS hBg fr kn => .inl ⟨trivial, fun K hK => wp_value (exec_pick rfl kn.1 kn.2.1) (hK _ _ ⟨Touch.refl _ _, rfl⟩)⟩),
                -- 21
                (fun Q aq ww own hS hBg fr kn => .inl ⟨trivial, fun K hK => wp_value (exec_assign rfl kn.1) (hK _ _ ⟨Touch.refl _ _, rfl⟩)⟩),
                trivial⟩ ?_
            intro vs own v9 hB9 hs9 kn inj
            clear inj hs9
            have e4 : vs 4 = .bool true := kn.1
            clear kn
            simp only [putAll, Act.put, List.setIfInBounds_toArray, List.set_cons_zero, List.set_cons_succ, e4]
            go_wp2_with fail
            go_ret
            exact ⟨rfl, hB.trans (hB9.mono hB.size)⟩
end Go.Proofs.YtcefoonflpofgaaDoor
