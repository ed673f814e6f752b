/-
  Own text. What Chain of the document's answer for blake gives.
-/
import Derived.Test.YtcefoonflpofgaaDoorJ4
import Derived.Test.YtcefoonflpofgaaDoorJ2
import Derived.Test.YtcefoonflpofgaaDoorRows
import Derived.SliceStrings
import Derived.Test.YtcefoonflpofgaaDoorTie
import Derived.Test.YtcefoonflpofgaaDoorCards
import Derived.ProofKit
import Derived.LaidMore
import Derived.OpenShut
import Derived.Stop.Joined
import Derived.SevenTiedAt
import Derived.Deep.DeepHandedRow
import Derived.Lib.LaidTab
namespace Go.Proofs.YtcefoonflpofgaaDoor
open Go.RowKit Go.Proofs
theorem enterMAC (args : Array Value) (w : World) : (callFunc 15 args).run Tryd.prog w = .ok (.enter 15 args) w := by kernel_rfl
/-- The text that the next key of a chain is made of, and that key. -/
def lstT (z : Nat → Int) : Nat → ByteArray
  | 0 => ⟨#[]⟩
  | i + 1 => mkS 32 (macF (mkS 32 z) (lstT z i ++ mkS 1 fun _ => ((i + 1 : Nat) : Int) % 256))
def chK (z : Nat → Int) (i : Nat) : Nat → Int := macF (mkS 32 z) (lstT z i ++ mkS 1 fun _ => ((i + 1 : Nat) : Int) % 256)
theorem lstT_next (z : Nat → Int) (i : Nat) : lstT z (i + 1) = mkS 32 (chK z i) := rfl
theorem lstT_size (z : Nat → Int) (i : Nat) : (lstT z i).size ≤ 32 := by
  cases i with
  | zero => exact Nat.zero_le _
  | succ i => rw [lstT_next, mkS_size]; omega
/-- Arrays of 32 bytes, one behind the other. -/
def rowsL (f : Nat → Nat → Int) : Nat → List Value
  | 0 => []
  | n + 1 => rowsL f n ++ nums .u8 32 (f n)
theorem rowsL_one (f : Nat → Nat → Int) : ∀ n, ∀ u ∈ rowsL f n, u.oneCell' = true
  | 0, u, hu => by cases hu
  | n + 1, u, hu => by
    rcases List.mem_append.1 hu with h | h
    · exact rowsL_one f n u h
    · exact nums_one u h
theorem macF_b (key text : ByteArray) (j : Nat) : 0 ≤ macF key text j ∧ macF key text j < 256 := outF_b _ j
theorem infoRow : (Tryd.prog.info? 23).map (fun i => (i.zero, i.size, i.bytes)) = some (some (.agg (WA .u8 32 fun _ => 0)), 32, 32) := by kernel_rfl
theorem run_bsR (s : Nat → Int) (w : World) : (Instr.buildSlice 37 1 #[(0, .agg (WA .u8 32 s))]).run Tryd.prog w = .ok (.slice (some ⟨w.heap.size, 0, none⟩) 1 1) (w.alloc (.cells (WA .u8 32 s) 23)) := by kernel_rfl
theorem wl_bsR {ops : Array Oper} {rest : List Oper} {d : Option Tmp} {x : Operand} {ty : TypeId} {ps : String} {af : Array Edge} {a : Act} {w : World} {Q : Exit → Act → World → Prop} {s : Nat → Int} (hx : a.eval x = .agg (WA .u8 32 s))
    (h : ∀ w', ArrAt w' w.heap.size .u8 23 32 s → Below w.heap.size w w' → wpList Tryd.prog ops Q rest (a.put d (.slice (some ⟨w.heap.size, 0, none⟩) 1 1)) w') :
    wpList Tryd.prog ops Q ({ dst := d, op := .buildSlice 37 1 #[(0, x)], type := ty, pos := ps, after := af, guard := none } :: rest) a w := by
  have hr := run_bsR s w
  refine wl_act rfl ?_
  unfold Oper.wp execOp
  simp only [List.map_toArray, List.map_cons, List.map_nil, hx, Sem.run_bind, hr, Result.andThen_ok, Sem.run_pure, Oper.upon]
  exact h _ (heap_alloc_new w _) ((Below.refl _ _).alloc (Nat.le_refl _) _)
theorem act_bsB {o : Oper} {a : Act} {w : World} {K : Act → World → Prop} {Q : Exit → Act → World → Prop} {x : Operand} (ho : o.op = .buildSlice 41 1 #[(0, x)]) {n : Int} (hx : a.eval x = .int .u8 n)
    (h : ∀ v, v.heap[w.heap.size]? = some (.cells (WA .u8 1 fun _ => n) 5 (0, 0)) → Below w.heap.size w v → K (a.put o.dst (.slice (some ⟨w.heap.size, 0, none⟩) 1 1)) v) : o.wp Tryd.prog a w K Q := by
  have hr := run_bsB n w
  unfold Oper.wp execOp
  simp only [ho, List.map_toArray, List.map_cons, List.map_nil, hx, Sem.run_bind, hr, Result.andThen_ok, Sem.run_pure, Oper.upon]
  exact h _ (heap_alloc_new w _) ((Below.refl _ _).alloc (Nat.le_refl _) _)
/-- 'append(x, an array of 32 bytes)' to a row of one's own. -/
theorem ap_rows {ops : Array Oper} {rest : List Oper} {d : Option Tmp} {s x : Operand} {ty : TypeId} {ps : String} {af : Array Edge} {a : Act} {w : World} {Q : Exit → Act → World → Prop}
    {B k b : Nat} {xs : List Value} {v0 : Value} {f : Nat → Int} (hs : a.eval s = v0) (hx : a.eval x = .slice (some ⟨b, 0, none⟩) 1 1) (hD : w.ownsRow B 23 32 v0 k xs) (hg : ArrAt w b .u8 23 32 f) (hl : k < 4000000) (hB : B ≤ w.heap.size)
    (h : ∀ v' w', w'.ownsRow B 23 32 v' (k + 1) (xs ++ nums .u8 32 f) → Below B w w' → (∀ q, q < w.heap.size → some q ≠ v0.ownBlock → w'.heap[q]? = w.heap[q]?) → wpList Tryd.prog ops Q rest (a.put d v') w') :
    wpList Tryd.prog ops Q ({ dst := d, op := .call { callee := .builtin .append, args := #[s, x], argTypes := #[37, 37] }, type := ty, pos := ps, after := af, guard := none } :: rest) a w := by
  obtain ⟨i0, hi, hz0, hz1, hz2⟩ := info_parts infoRow
  refine wpList_append_own w rfl s x 37 rfl B 23 i0 (.agg (WA .u8 32 fun _ => 0)) 32 32 Tryd.underlying37 hi hz0 hz1 hz2 (by show (WA .u8 32 fun _ => 0).size = 32; rw [WA_size]) (by decide) _ k _ hs hD ⟨b, 0, none⟩ 1 1 (nums .u8 32 f) hx (by rw [nums_len]) ?_ nums_one ?_ ?_ hB ?_
  · intro j u hj
    obtain ⟨hj2, rfl⟩ := nums_get hj
    rw [Addr.add_lit, Nat.zero_add]
    exact hg.cell j hj2
  · unfold maxLen; omega
  · omega
  · intro v' w1 hown hgrow _
    exact h v' w1 hown (Below.grow hgrow hB (fun q hq => (hD.lt q hq).1)) (fun q hq hne => hgrow.block q hq hne)
theorem ownR_kept {w w' : World} {B : Nat} {e : TypeId} {v : Value} {n : Nat} {xs : List Value} (h : w.ownsRow B e 32 v n xs) (hb : Below w.heap.size w w') : w'.ownsRow B e 32 v n xs := by
  obtain ⟨h1, h2⟩ := h
  refine ⟨h1, ?_⟩
  rcases h2 with h2 | ⟨g, cap, cur, rfl, hb1, hg, hr⟩
  · exact .inl h2
  · refine .inr ⟨g, cap, cur, rfl, hb1, ?_, hr⟩
    rw [hb.block g (heap_lt hg)]
    exact hg
set_option maxHeartbeats 8000000 in
set_option maxRecDepth 100000 in
theorem rChain_run (n : Nat) (key : Nat → Int) (input : ByteArray) (w : World) (hk : Byts 32 key) (h1 : 1 ≤ n) (h8 : n ≤ 8) (hi : input.size ≤ 140737488355328) :
    Calls Tryd.prog 17 #[.int .i64 (n : Int), .agg (WA .u8 32 key), .string input] w fun e w' => ∃ v B, e = .returned (.tuple #[v, .int .i64 0]) ∧ w.heap.size ≤ B ∧ w'.ownsRow B 23 32 v n (rowsL (chK (macF (mkS 32 key) input)) n) ∧ Below w.heap.size w w' := by
  have g0 : ArrAt (w.alloc (.cells (WA .u8 32 key) 23)) w.heap.size .u8 23 32 key := heap_alloc_new w _
  have hB : Below w.heap.size w (w.alloc (.cells (WA .u8 32 key) 23)) := (Below.refl _ w).alloc (Nat.le_refl _) _
  have hcv := str_back 32 w.heap.size 32 _ 32 key g0.row (fun j hj => hk j hj) rfl
  have hM := fun w => rMAC_run (mkS 32 key) input w (by rw [mkS_size]; omega) (by omega)
  have HZB : Hid (∀ j, j < 32 → 0 ≤ macF (mkS 32 key) input j ∧ macF (mkS 32 key) input j < 256) := Hid.mk (fun j _ => macF_b _ _ j)
  generalize macF (mkS 32 key) input = zz at *
  go_enter Tryd.func17, Tryd.ntmps17
  go_wp2_with fail
  refine (hM _).mono ?_
  rintro e v1 ⟨rfl, hb⟩
  replace hB := hB.trans (hb.mono hB.size)
  clear hb hM hcv g0
  have gn := fun o (ho : o = Obj.cells (WA .u8 32 fun _ => 0) 23 (0, 0)) => (by rw [ho]; exact heap_alloc_new v1 _ : ArrAt (v1.alloc o) v1.heap.size .u8 23 32 (fun _ => 0))
  have HBS := Hid.mk hB.size
  go_wp2_with (refine st_arr isArr32 (gn _ rfl) (by rfl) (by rfl) ?_; intro v2 g8 o8; refine Hid.out ?_)
  replace hB := (hB.alloc HBS.out _).trans (o8.below HBS.out)
  have hc8 : w.heap.size ≤ v1.heap.size := HBS.out
  clear o8 gn HBS
  generalize v1.heap.size = c8 at *
  refine Hid.mk ?_
  go_wp2_with fail
  go_loopg [9, 10, 11] n (fun gm ov lv iv v => ∃ i p : Nat, Hid (gm + i = n) ∧ Hid (p = i + 1) ∧ iv = .int .i64 (p : Int) ∧ lv = .string (lstT zz i) ∧ ArrAt v c8 .u8 23 32 zz ∧ v.ownsRow (c8 + 1) 23 32 ov i (rowsL (chK zz) i) ∧ Below w.heap.size w v)
  case atStart => exact ⟨0, 1, Hid.mk rfl, Hid.mk rfl, rfl, rfl, g8, World.ownsRow_nil _ _ _ _, hB⟩
  case round =>
    clear g8 hB
    obtain ⟨i, p, HI, HP, rfl, rfl, g8, hO, hB⟩ := hrel
    have hin : i ≤ n := by have := HI.out; omega
    by_cases hil : i < n
    · have hp : p ≤ n := by have := HP.out; omega
      have hpI : (p : Int) ≤ (n : Int) := by omega
      have HL1 : Hid ((lstT zz i).size + (mkS 1 fun _ => (p : Int) % 256).size ≤ 9223372036854775807) := Hid.mk (by have := lstT_size zz i; rw [mkS_size]; omega)
      have HMC : Hid (∀ w, Calls Tryd.prog 15 #[.string (mkS 32 zz), .string (lstT zz i ++ mkS 1 fun _ => (p : Int) % 256)] w fun e w' => e = .returned (.agg (WA .u8 32 (chK zz i))) ∧ Below w.heap.size w w') := Hid.mk (fun w => by
        have h := rMAC_run (mkS 32 zz) (lstT zz i ++ mkS 1 fun _ => (p : Int) % 256) w (by rw [mkS_size]; omega) (by have := lstT_size zz i; rw [ByteArray.size_append, mkS_size]; omega)
        rw [HP.out] at h ⊢
        exact h)
      go_wp2_with fail
      refine wp_gen (fun v => ArrAt v c8 .u8 23 32 (zz) ∧ v.ownsRow (c8 + 1) 23 32 u9 i (rowsL (chK zz) i) ∧ Below w.heap.size w v) ⟨g8, hO, hB⟩ ?_
      clear g8 hO hB
      rintro v0 ⟨g8, hO, hB⟩
      have HG8 : Hid (∀ u, Below v0.heap.size v0 u → ArrAt u c8 .u8 23 32 zz) := Hid.mk (fun u hu => g8.kept hu)
      have HOB : Hid (∀ q, v0.heap.size ≤ q → some q ≠ u9.ownBlock) := Hid.mk (fun q hq e => by have := (hO.lt q e.symm).2; omega)
      refine wp_region3 (Below v0.heap.size v0) v0.heap.size
        ([] : List (Nat × Cont))
        [kv (.slice (some ⟨c8, 0, none⟩) 32 32), kv (.string (mkS 32 zz)), kv (.string (lstT zz i)), kv (.int .i64 (p : Int)), kv (.int .u8 ((p : Int) % 256)), ks 1 (WA .u8 1 fun _ => (p : Int) % 256) 5, kv (.string (mkS 1 fun _ => (p : Int) % 256)), kv (.string (lstT zz i ++ mkS 1 fun _ => (p : Int) % 256)), kv (.agg (WA .u8 32 (chK zz i))), kp (WA .u8 32 fun _ => 0) 23 10 (WA .u8 32 (chK zz i)), .val fun _ => True]
        [.none, .none, .none, .none, .none, .none, .none, .none, .none, .none, .own 9 1]
        [some 28, some 29, some 30, some 31, some 32, some 33, some 34, some 35, some 36, some 12, none]
        [(8, .pointer (some ⟨c8, 0, none⟩)), (10, .string (lstT zz i)), (11, .int .i64 (p : Int))]
        [[], [.slot 0], [], [], [.slot 3], [.slot 4], [.slot 5, .cont 5 0], [.slot 2, .slot 6], [.slot 1, .slot 7], [], [.slot 9, .cont 9 0, .slot 8]]
        [.slot 9, .cont 9 1] [28, 29, 30, 31, 32, 33, 34, 35, 36, 12]
        rfl (by kernel_rfl) ⟨rfl, rfl, rfl, trivial⟩ (Below.refl _ v0).drew (Nat.le_refl _) trivial trivial (below_G (Nat.le_refl _) trivial)
        ⟨
          -- 0
          (fun Q aq ww own hS hBg fr kn => .inl ⟨trivial, fun K hK => wp_value (exec_sl (v := .pointer (some ⟨c8, 0, none⟩)) rfl fr.1 (sl32w c8 ww)) (hK _ _ ⟨Touch.refl _ _, rfl⟩)⟩),
          -- 1
          (fun Q aq ww own hS hBg fr kn => .inl ⟨trivial, fun K hK => wp_value (exec_conv rfl kn.1 (str_back 32 c8 32 ww 32 _ (ArrAt.row (HG8.out ww hS)) HZB.out rfl)) (hK _ _ ⟨Touch.refl _ _, rfl⟩)⟩),
          -- 2
          (fun Q aq ww own hS hBg fr kn => .inl ⟨trivial, fun K hK => wp_value (exec_move rfl fr.2.1) (hK _ _ ⟨Touch.refl _ _, rfl⟩)⟩),
          -- 3
          (fun Q aq ww own hS hBg fr kn => .inl ⟨trivial, fun K hK => wp_value (exec_move rfl fr.2.2.1) (hK _ _ ⟨Touch.refl _ _, rfl⟩)⟩),
          -- 4
          (fun Q aq ww own hS hBg fr kn => .inl ⟨trivial, fun K hK => wp_value (exec_conv rfl kn.1 (conv_ib _ _)) (hK _ _ ⟨Touch.refl _ _, rfl⟩)⟩),
          -- 5
          (fun Q aq ww own hS hBg fr kn => .inl ⟨trivial, fun K hK => act_bsB rfl kn.1 (fun v hg hb => hK _ _ ⟨touch_below hb, _, Nat.le_refl _, rfl, obIn hg⟩)⟩),
          -- 6
          (fun Q aq ww own hS hBg fr kn => .inl ⟨trivial, fun K hK => wp_value (exec_conv rfl kn.1.1 (str_back 1 _ 1 ww 1 _ (ArrAt.row (obAt kn.2.1)) (fun j _ => by omega) rfl)) (hK _ _ ⟨Touch.refl _ _, rfl⟩)⟩),
          -- 7
          (fun Q aq ww own hS hBg fr kn => .inl ⟨trivial, fun K hK => wp_value (exec_catS rfl kn.1 kn.2.1 HL1.out) (hK _ _ ⟨Touch.refl _ _, rfl⟩)⟩),
          -- 8
          (fun Q aq ww own hS hBg fr kn => .inl ⟨trivial, fun K hK => stepc enterMAC rfl (args2 kn.1 kn.2.1) (HMC.out ww) (fun w' hb => hK _ _ ⟨touch_below hb, rfl⟩)⟩),
          -- 9
          (fun Q aq ww own hS hBg fr kn => .inl ⟨trivial, fun K hK => act_alloc zero32 rfl (fun w' hb hg => hK _ _ ⟨touch_below hb, _, Nat.le_refl _, rfl, obIn hg⟩)⟩),
          -- 10
          (fun Q aq ww own hS hBg fr kn => .inl ⟨trivial, fun K hK => act_arr rfl isArr32 kn.1.1 kn.2.2.1 (obAt kn.2.1) (fun w2 hg ho => hK _ _ ⟨touch_only ho, obIn hg, trivial⟩)⟩),
          trivial⟩ ?_
      intro vs own v5 hB5 hs5 kn inj
      clear inj hs5
      replace g8 := g8.kept hB5
      replace hO := ownR_kept hO hB5
      replace hB := hB.trans (hB5.mono hB.size)
      obtain ⟨e12, hb12, _⟩ := kn.1
      change vs 12 = _ at e12
      have gC : ArrAt v5 (own 9) .u8 23 32 (chK zz i) := obAt kn.2.1
      clear kn hB5
      simp only [putAll, Act.put, List.setIfInBounds_toArray, List.set_cons_zero, List.set_cons_succ, e12]
      generalize own 9 = c12 at *
      go_wp2_with (first | (refine ld_arr isArr32 gC (by rfl) ?_) | (refine wl_bsR (by rfl) ?_; intro v6 g6 hb6; refine Hid.out ?_))
      replace g8 := g8.kept hb6
      replace gC := gC.kept hb6
      replace hO := ownR_kept hO hb6
      replace hB := hB.trans (hb6.mono hB.size)
      have HBS := Hid.mk hB.size
      clear hb6
      refine Hid.mk ?_
      have hz8 := g8.lt
      go_wp2_with (refine ap_rows (by rfl) (by rfl) hO g6 (by omega) (by have := g8.lt; omega) ?_; intro vb v7 hO7 hb7 hk7; refine Hid.out ?_)
      have gC7 : ArrAt v7 c12 .u8 23 32 (chK zz i) := gC.block (hk7 c12 gC.lt (HOB.out c12 hb12))
      have g87 := g8.below hb7 (by omega)
      have hB7 := hB.trans (hb7.mono (by omega))
      have hcv := str_back 32 c12 32 v7 32 (chK zz i) gC7.row (fun j _ => macF_b _ _ j) rfl
      have HLN : Hid (mkS 32 (chK zz i) = lstT zz (i + 1)) := Hid.mk (lstT_next zz i).symm
      clear hO hb7 hk7 gC g8 hB HG8 HOB g6 HL1 HMC
      refine Hid.mk ?_
      go_wp2_with (refine wl_value (by rfl) (exec_addV (m := p) (n := 1) rfl (by rfl) (by rfl) rfl (by omega)) ?_)
      rw [HLN.out]
      go_roundg (n - (i + 1))
      case rel => exact ⟨i + 1, p + 1, Hid.mk (by omega), Hid.mk (by have := HP.out; omega), by go_num, rfl, g87, hO7, hB7⟩
      case measure => have := HI.out; omega
    · have hi2 : i = n := by omega
      subst hi2
      have hpI : ¬ (p : Int) ≤ (i : Int) := by have := HP.out; omega
      go_wp2_with fail
      exact bodyPost_ret (v := .tuple #[u9, .int .i64 0]) (results_two Tryd.results17 (by rfl) (by rfl)) rfl ⟨u9, rfl, c8 + 1, by omega, hO, hB⟩
theorem rChain_bad (n : Int) (key : Nat → Int) (input : ByteArray) (w : World) (hn : n < 1 ∨ 8 < n) :
    Calls Tryd.prog 17 #[.int .i64 n, .agg (WA .u8 32 key), .string input] w fun e w' => e = .returned (.tuple #[.slice none 0 0, .int .i64 1]) ∧ Below w.heap.size w w' := by
  by_cases h1 : n < 1
  · clear hn
    go_enter Tryd.func17, Tryd.ntmps17
    go_wp2_with fail
    exact bodyPost_ret (v := .tuple #[.slice none 0 0, .int .i64 1]) (results_two Tryd.results17 (by rfl) (by rfl)) rfl ⟨rfl, (Below.refl _ w).alloc (Nat.le_refl _) _⟩
  · have h8 : 8 < n := by omega
    clear hn
    go_enter Tryd.func17, Tryd.ntmps17
    go_wp2_with fail
    exact bodyPost_ret (v := .tuple #[.slice none 0 0, .int .i64 1]) (results_two Tryd.results17 (by rfl) (by rfl)) rfl ⟨rfl, (Below.refl _ w).alloc (Nat.le_refl _) _⟩
end Go.Proofs.YtcefoonflpofgaaDoor
/-
  Own text. What Chain of package blake answers.
-/
namespace Go.Proofs.YtcefoonflpofgaaDoor
open Go.RowKit Go.Proofs
theorem enterMACc (args : Array Value) (w : World) : (callFunc 14 args).run Tryd.prog w = .ok (.enter 14 args) w := by kernel_rfl
theorem strsC2 {w : World} {b : Nat} {s t : ByteArray} (h : ContOK (fun ob => ob = .cells #[.string s, .string t] 9 (0, 0)) w b) : Strs w (.slice (some ⟨b, 0, none⟩) 2 2) 2 (two2 s t) := by
  obtain ⟨ob, hg, rfl⟩ := h
  exact strs2 hg
set_option maxHeartbeats 4000000 in
set_option maxRecDepth 100000 in
theorem Chain_run (n : Nat) (key : Nat → Int) (input : ByteArray) (w : World) (hTw : Tabs w) (hk : Byts 32 key) (h1 : 1 ≤ n) (h8 : n ≤ 8) (hi : input.size ≤ 140737488355328) :
    Calls Tryd.prog 16 #[.int .i64 (n : Int), .agg (WA .u8 32 key), .string input] w fun e w' => ∃ v B, e = .returned (.tuple #[v, .int .i64 0]) ∧ w.heap.size ≤ B ∧ w'.ownsRow B 23 32 v n (rowsL (chK (macF (mkS 32 key) input)) n) ∧ Below w.heap.size w w' := by
  have g0 : ArrAt (w.alloc (.cells (WA .u8 32 key) 23)) w.heap.size .u8 23 32 key := heap_alloc_new w _
  have hB : Below w.heap.size w (w.alloc (.cells (WA .u8 32 key) 23)) := (Below.refl _ w).alloc (Nat.le_refl _) _
  have h2 := hTw.two
  have HTW : Hid (∀ u, Below w.heap.size w u → Tabs u) := Hid.mk (fun u hu => hTw.below hu h2)
  have hM := fun sv u hT hs => MAC_run (mkS 32 key) sv 1 (one1 input) u hT (by rw [mkS_size]; omega) hs (by omega) (by rw [join1]; omega)
  rw [join1] at hM
  have hcv := str_back 32 w.heap.size 32 _ 32 key g0.row (fun j hj => hk j hj) rfl
  have HZB : Hid (∀ j, j < 32 → 0 ≤ macF (mkS 32 key) input j ∧ macF (mkS 32 key) input j < 256) := Hid.mk (fun j _ => macF_b _ _ j)
  generalize macF (mkS 32 key) input = zz at *
  go_enter Tryd.func16, Tryd.ntmps16
  go_wp2_with (refine wl_bs1 (by rfl) ?_; intro v1 s1 hb1 hz1; refine Hid.out ?_)
  replace hB := hB.trans (hb1.mono hB.size)
  replace s1 : Strs v1 (.slice (some ⟨w.heap.size + 1, 0, none⟩) 1 1) 1 (one1 input) := by simpa using s1
  clear hb1 hz1 g0 hcv
  refine Hid.mk ?_
  go_wp2_with fail
  refine (hM _ _ (HTW.out _ hB) s1).mono ?_
  rintro e v2 ⟨rfl, hb⟩
  replace hB := hB.trans (hb.mono hB.size)
  clear hb hM s1
  have gn := fun o (ho : o = Obj.cells (WA .u8 32 fun _ => 0) 23 (0, 0)) => (by rw [ho]; exact heap_alloc_new v2 _ : ArrAt (v2.alloc o) v2.heap.size .u8 23 32 (fun _ => 0))
  have HBS := Hid.mk hB.size
  go_wp2_with (refine st_arr isArr32 (gn _ rfl) (by rfl) (by rfl) ?_; intro v3 g8 o8; refine Hid.out ?_)
  replace hB := (hB.alloc HBS.out _).trans (o8.below HBS.out)
  have hc8 : w.heap.size ≤ v2.heap.size := HBS.out
  clear o8 gn HBS
  generalize v2.heap.size = c8 at *
  refine Hid.mk ?_
  go_wp2_with fail
  go_loopg [9, 10, 25] n (fun gm ov lv iv v => ∃ i p : Nat, Hid (gm + i = n) ∧ Hid (p = i + 1) ∧ iv = .int .i64 (i : Int) ∧ lv = .string (lstT zz i) ∧ ArrAt v c8 .u8 23 32 zz ∧ v.ownsRow (c8 + 1) 23 32 ov i (rowsL (chK zz) i) ∧ Below w.heap.size w v)
  case atStart => exact ⟨0, 1, Hid.mk rfl, Hid.mk rfl, rfl, rfl, g8, World.ownsRow_nil _ _ _ _, hB⟩
  case round =>
    clear g8 hB
    obtain ⟨i, p, HI, HP, rfl, rfl, g8, hO, hB⟩ := hrel
    have hin : i ≤ n := by have := HI.out; omega
    by_cases hil : i < n
    · have hilI : (i : Int) < (n : Int) := by omega
      have HMC : Hid (∀ sv w, Tabs w → Strs w sv 2 (two2 (lstT zz i) (mkS 1 fun _ => (p : Int) % 256)) → Calls Tryd.prog 14 #[.string (mkS 32 zz), sv] w fun e w' => e = .returned (.agg (WA .u8 32 (chK zz i))) ∧ Below w.heap.size w w') := Hid.mk (fun sv w hT hs => by
        have h := MAC_run (mkS 32 zz) sv 2 _ w hT (by rw [mkS_size]; omega) hs (by omega) (by have := lstT_size zz i; rw [join2, ByteArray.size_append, mkS_size]; omega)
        rw [join2, HP.out] at h
        exact h)
      go_wp2_with fail
      refine wp_gen (fun v => ArrAt v c8 .u8 23 32 (zz) ∧ v.ownsRow (c8 + 1) 23 32 u9 i (rowsL (chK zz) i) ∧ Below w.heap.size w v) ⟨g8, hO, hB⟩ ?_
      clear g8 hO hB
      rintro v0 ⟨g8, hO, hB⟩
      have HG8 : Hid (∀ u, Below v0.heap.size v0 u → ArrAt u c8 .u8 23 32 zz) := Hid.mk (fun u hu => g8.kept hu)
      have HT : Hid (∀ u, Below v0.heap.size v0 u → Tabs u) := Hid.mk (fun u hu => HTW.out u (hB.trans (hu.mono hB.size)))
      have HOB : Hid (∀ q, v0.heap.size ≤ q → some q ≠ u9.ownBlock) := Hid.mk (fun q hq e => by have := (hO.lt q e.symm).2; omega)
      refine wp_region3 (Below v0.heap.size v0) v0.heap.size
        ([] : List (Nat × Cont))
        [kv (.slice (some ⟨c8, 0, none⟩) 32 32), kv (.string (mkS 32 zz)), kv (.string (lstT zz i)), kv (.int .i64 (i : Int)), kv (.int .i64 (p : Int)), kv (.int .u8 ((p : Int) % 256)), ks 1 (WA .u8 1 fun _ => (p : Int) % 256) 5, kv (.string (mkS 1 fun _ => (p : Int) % 256)), .new (slTo 2) ⟨fun ob => ob = .cells #[.string (lstT zz i), .string (mkS 1 fun _ => (p : Int) % 256)] 9 (0, 0), []⟩, kv (.agg (WA .u8 32 (chK zz i))), kp (WA .u8 32 fun _ => 0) 23 11 (WA .u8 32 (chK zz i)), .val fun _ => True]
        [.none, .none, .none, .none, .none, .none, .none, .none, .none, .none, .none, .own 10 1]
        [some 28, some 29, some 30, some 31, some 32, some 33, some 34, some 35, some 36, some 37, some 12, none]
        [(8, .pointer (some ⟨c8, 0, none⟩)), (10, .string (lstT zz i)), (11, .int .i64 (i : Int))]
        [[], [.slot 0], [], [], [.slot 3], [.slot 4], [.slot 5], [.slot 6, .cont 6 0], [.slot 2, .slot 7], [.slot 1, .slot 8, .cont 8 0], [], [.slot 10, .cont 10 0, .slot 9]]
        [.slot 10, .cont 10 1] [28, 29, 30, 31, 32, 33, 34, 35, 36, 37, 12]
        rfl (by kernel_rfl) ⟨rfl, rfl, rfl, trivial⟩ (Below.refl _ v0).drew (Nat.le_refl _) trivial trivial (below_G (Nat.le_refl _) trivial)
        ⟨
          -- 0
          (fun Q aq ww own hS hBg fr kn => .inl ⟨trivial, fun K hK => wp_value (exec_sl (v := .pointer (some ⟨c8, 0, none⟩)) rfl fr.1 (sl32w c8 ww)) (hK _ _ ⟨Touch.refl _ _, rfl⟩)⟩),
          -- 1
          (fun Q aq ww own hS hBg fr kn => .inl ⟨trivial, fun K hK => wp_value (exec_conv rfl kn.1 (str_back 32 c8 32 ww 32 _ (ArrAt.row (HG8.out ww hS)) HZB.out rfl)) (hK _ _ ⟨Touch.refl _ _, rfl⟩)⟩),
          -- 2
          (fun Q aq ww own hS hBg fr kn => .inl ⟨trivial, fun K hK => wp_value (exec_move rfl fr.2.1) (hK _ _ ⟨Touch.refl _ _, rfl⟩)⟩),
          -- 3
          (fun Q aq ww own hS hBg fr kn => .inl ⟨trivial, fun K hK => wp_value (exec_move rfl fr.2.2.1) (hK _ _ ⟨Touch.refl _ _, rfl⟩)⟩),
          -- 4
          (fun Q aq ww own hS hBg fr kn => .inl ⟨trivial, fun K hK => wp_value (exec_addV (m := i) (n := 1) rfl kn.1 rfl HP.out.symm (by omega)) (hK _ _ ⟨Touch.refl _ _, rfl⟩)⟩),
          -- 5
          (fun Q aq ww own hS hBg fr kn => .inl ⟨trivial, fun K hK => wp_value (exec_conv rfl kn.1 (conv_ib _ _)) (hK _ _ ⟨Touch.refl _ _, rfl⟩)⟩),
          -- 6
          (fun Q aq ww own hS hBg fr kn => .inl ⟨trivial, fun K hK => act_bsB rfl kn.1 (fun v hg hb => hK _ _ ⟨touch_below hb, _, Nat.le_refl _, rfl, obIn hg⟩)⟩),
          -- 7
          (fun Q aq ww own hS hBg fr kn => .inl ⟨trivial, fun K hK => wp_value (exec_conv rfl kn.1.1 (str_back 1 _ 1 ww 1 _ (ArrAt.row (obAt kn.2.1)) (fun j _ => by omega) rfl)) (hK _ _ ⟨Touch.refl _ _, rfl⟩)⟩),
          -- 8
          (fun Q aq ww own hS hBg fr kn => .inl ⟨trivial, fun K hK => act_bs2 rfl kn.1 kn.2.1 (fun v hg hb => hK _ _ ⟨touch_below hb, _, Nat.le_refl _, rfl, ⟨_, hg, rfl⟩⟩)⟩),
          -- 9
          (fun Q aq ww own hS hBg fr kn => .inl ⟨trivial, fun K hK => stepc enterMACc rfl (args2 kn.1 kn.2.1.1) (HMC.out _ ww (HT.out ww hS) (strsC2 kn.2.2.1)) (fun w' hb => hK _ _ ⟨touch_below hb, rfl⟩)⟩),
          -- 10
          (fun Q aq ww own hS hBg fr kn => .inl ⟨trivial, fun K hK => act_alloc zero32 rfl (fun w' hb hg => hK _ _ ⟨touch_below hb, _, Nat.le_refl _, rfl, obIn hg⟩)⟩),
          -- 11
          (fun Q aq ww own hS hBg fr kn => .inl ⟨trivial, fun K hK => act_arr rfl isArr32 kn.1.1 kn.2.2.1 (obAt kn.2.1) (fun w2 hg ho => hK _ _ ⟨touch_only ho, obIn hg, trivial⟩)⟩),
          trivial⟩ ?_
      intro vs own v5 hB5 hs5 kn inj
      clear inj hs5
      replace g8 := g8.kept hB5
      replace hO := ownR_kept hO hB5
      replace hB := hB.trans (hB5.mono hB.size)
      obtain ⟨e12, hb12, _⟩ := kn.1
      change vs 12 = _ at e12
      have gC : ArrAt v5 (own 10) .u8 23 32 (chK zz i) := obAt kn.2.1
      clear kn hB5
      simp only [putAll, Act.put, List.setIfInBounds_toArray, List.set_cons_zero, List.set_cons_succ, e12]
      generalize own 10 = c12 at *
      go_wp2_with (first | (refine ld_arr isArr32 gC (by rfl) ?_) | (refine wl_bsR (by rfl) ?_; intro v6 g6 hb6; refine Hid.out ?_))
      replace g8 := g8.kept hb6
      replace gC := gC.kept hb6
      replace hO := ownR_kept hO hb6
      replace hB := hB.trans (hb6.mono hB.size)
      have HBS := Hid.mk hB.size
      clear hb6
      refine Hid.mk ?_
      have hz8 := g8.lt
      go_wp2_with (refine ap_rows (by rfl) (by rfl) hO g6 (by omega) (by have := g8.lt; omega) ?_; intro vb v7 hO7 hb7 hk7; refine Hid.out ?_)
      have gC7 : ArrAt v7 c12 .u8 23 32 (chK zz i) := gC.block (hk7 c12 gC.lt (HOB.out c12 hb12))
      have g87 := g8.below hb7 (by omega)
      have hB7 := hB.trans (hb7.mono (by omega))
      have hcv := str_back 32 c12 32 v7 32 (chK zz i) gC7.row (fun j _ => macF_b _ _ j) rfl
      have HLN : Hid (mkS 32 (chK zz i) = lstT zz (i + 1)) := Hid.mk (lstT_next zz i).symm
      clear hO hb7 hk7 gC g8 hB HG8 HOB g6 HMC HT
      refine Hid.mk ?_
      go_wp2_with fail
      rw [HLN.out]
      go_roundg (n - (i + 1))
      case rel => exact ⟨i + 1, p + 1, Hid.mk (by omega), Hid.mk (by have := HP.out; omega), by go_num, rfl, g87, hO7, hB7⟩
      case measure => have := HI.out; omega
    · have hi2 : i = n := by omega
      subst hi2
      go_wp2_with fail
      exact bodyPost_ret (v := .tuple #[u9, .int .i64 0]) (results_two Tryd.results16 (by rfl) (by rfl)) rfl ⟨u9, c8 + 1, rfl, by omega, hO, hB⟩
theorem Chain_bad (n : Int) (key : Nat → Int) (input : ByteArray) (w : World) (hn : n < 1 ∨ 8 < n) :
    Calls Tryd.prog 16 #[.int .i64 n, .agg (WA .u8 32 key), .string input] w fun e w' => e = .returned (.tuple #[.slice none 0 0, .int .i64 1]) ∧ Below w.heap.size w w' := by
  by_cases h1 : n < 1
  · clear hn
    go_enter Tryd.func16, Tryd.ntmps16
    go_wp2_with fail
    exact bodyPost_ret (v := .tuple #[.slice none 0 0, .int .i64 1]) (results_two Tryd.results16 (by rfl) (by rfl)) rfl ⟨rfl, (Below.refl _ w).alloc (Nat.le_refl _) _⟩
  · have h8 : 8 < n := by omega
    clear hn
    go_enter Tryd.func16, Tryd.ntmps16
    go_wp2_with fail
    exact bodyPost_ret (v := .tuple #[.slice none 0 0, .int .i64 1]) (results_two Tryd.results16 (by rfl) (by rfl)) rfl ⟨rfl, (Below.refl _ w).alloc (Nat.le_refl _) _⟩
end Go.Proofs.YtcefoonflpofgaaDoor
/-
  Own text. The numbers of the statements' awake for blake: two hashes that the document fixes.
-/
namespace Go.Proofs.YtcefoonflpofgaaDoor
open Go.RowKit Go.Proofs
theorem aw_abc : ∀ i, i < 8 → sumF ⟨#[97, 98, 99]⟩ i = [80, 140, 94, 140, 50, 124, 20, 226].getD i 0 := by decide +kernel
theorem aw_nil : ∀ i, i < 8 → sumF ⟨#[]⟩ i = [105, 33, 122, 48, 121, 144, 128, 148].getD i 0 := by decide +kernel
end Go.Proofs.YtcefoonflpofgaaDoor
/-
  Own text. The statements' awake for blake.
-/
namespace Go.Proofs.YtcefoonflpofgaaDoor
open Go.RowKit Go.Proofs
theorem aw_s1 : mkS 8 (sumF (⟨#[97]⟩ ++ ⟨#[98, 99]⟩)) = ⟨#[80, 140, 94, 140, 50, 124, 20, 226]⟩ := by
  have e : (⟨#[97]⟩ ++ ⟨#[98, 99]⟩ : ByteArray) = ⟨#[97, 98, 99]⟩ := by decide +kernel
  rw [e, mkS_congr aw_abc]
  decide +kernel
theorem aw_s2 : mkS 8 (sumF ByteArray.empty) = ⟨#[105, 33, 122, 48, 121, 144, 128, 148]⟩ := by
  have h := mkS_congr aw_nil
  show mkS 8 (sumF ⟨#[]⟩) = _
  rw [h]
  decide +kernel
theorem strs0 (w : World) : Strs w (.slice none 0 0) 0 (fun _ => ByteArray.empty) := ⟨none, 0, rfl, fun h => by omega⟩
set_option maxHeartbeats 1600000 in
theorem awake_run (w : World) (hTw : Tabs w) : Calls Tryd.prog 11 #[] w fun e w' => e = .returned (.bool true) ∧ Below w.heap.size w w' := by
  have HS1 := Hid.mk aw_s1
  have HS2 := Hid.mk aw_s2
  have HB1 := Hid.mk (outF_b (stF (⟨#[97]⟩ ++ ⟨#[98, 99]⟩) (h0F 32 0) (nbF (⟨#[97]⟩ ++ ⟨#[98, 99]⟩ : ByteArray).size)))
  have HB2 := Hid.mk (outF_b (stF ByteArray.empty (h0F 32 0) (nbF ByteArray.empty.size)))
  change Hid (∀ i, 0 ≤ sumF (⟨#[97]⟩ ++ ⟨#[98, 99]⟩) i ∧ sumF (⟨#[97]⟩ ++ ⟨#[98, 99]⟩) i < 256) at HB1
  change Hid (∀ i, 0 ≤ sumF ByteArray.empty i ∧ sumF ByteArray.empty i < 256) at HB2
  have hA := fun sv u hT hs => Sum_run sv 2 (two2 ⟨#[97]⟩ ⟨#[98, 99]⟩) u hT hs (by omega) (by rw [join2, ByteArray.size_append]; decide)
  have hE := fun u hT => Sum_run (.slice none 0 0) 0 (fun _ => ByteArray.empty) u hT (strs0 u) (by omega) (by decide)
  rw [join2] at hA
  change ∀ u, Tabs u → Calls Tryd.prog 8 #[.slice none 0 0] u fun e w' => e = .returned (.agg (WA .u8 32 (sumF ByteArray.empty))) ∧ Below u.heap.size u w' at hE
  generalize sumF (⟨#[97]⟩ ++ ⟨#[98, 99]⟩) = X at *
  generalize sumF ByteArray.empty = Y at *
  go_enter Tryd.func11, Tryd.ntmps11
  go_wp2_with (refine wl_bs2 (by rfl) (by rfl) ?_; intro v1 s1 hb1 hz1; refine Hid.out ?_)
  have hB := hb1
  clear hb1 hz1
  refine Hid.mk ?_
  go_wp2_with fail
  refine (hA _ _ (hTw.kept hB) s1).mono ?_
  rintro e v2 ⟨rfl, hb2⟩
  replace hB := hB.trans (hb2.mono hB.size)
  clear hb2 s1 hA
  have gn := fun o (ho : o = Obj.cells (WA .u8 32 fun _ => 0) 23 (0, 0)) => (by rw [ho]; exact heap_alloc_new v2 _ : ArrAt (v2.alloc o) v2.heap.size .u8 23 32 (fun _ => 0))
  have HBS := Hid.mk hB.size
  go_wp2_with (refine st_arr isArr32 (gn _ rfl) (by rfl) (by rfl) ?_; intro v3 g1 o3; refine Hid.out ?_)
  replace hB := (hB.alloc HBS.out _).trans (o3.below HBS.out)
  clear o3 gn HBS
  generalize v2.heap.size = b1 at *
  refine Hid.mk ?_
  go_wp2_with fail
  refine (hE _ (hTw.kept hB)).mono ?_
  rintro e v4 ⟨rfl, hb4⟩
  replace hB := hB.trans (hb4.mono hB.size)
  replace g1 := g1.kept hb4
  clear hb4 hE
  have gn := fun o (ho : o = Obj.cells (WA .u8 32 fun _ => 0) 23 (0, 0)) => (by rw [ho]; exact heap_alloc_new v4 _ : ArrAt (v4.alloc o) v4.heap.size .u8 23 32 (fun _ => 0))
  have HBS := Hid.mk hB.size
  have hz1 := g1.lt
  go_wp2_with (refine st_arr isArr32 (gn _ rfl) (by rfl) (by rfl) ?_; intro v5 g2 o5; refine Hid.out ?_)
  replace hB := (hB.alloc HBS.out _).trans (o5.below HBS.out)
  replace g1 := (g1.alloc _).only o5 (by omega)
  clear o5 gn HBS
  generalize v4.heap.size = b2 at *
  have hs1 : (Instr.sliceAt 23 (.pointer (some ⟨b1, 0, none⟩)) none (some (.int .i64 8)) none).run Tryd.prog v5 = .ok (.slice (some ⟨b1, 0, none⟩) 8 32) v5 := sl32h b1 8 v5 (by omega)
  have hs2 : (Instr.sliceAt 23 (.pointer (some ⟨b2, 0, none⟩)) none (some (.int .i64 8)) none).run Tryd.prog v5 = .ok (.slice (some ⟨b2, 0, none⟩) 8 32) v5 := sl32h b2 8 v5 (by omega)
  have hc1 := str_back 8 b1 32 v5 8 X (g1.row.mono (by omega) (fun _ _ => rfl)) (fun j _ => HB1.out j) rfl
  have hc2 := str_back 8 b2 32 v5 8 Y (g2.row.mono (by omega) (fun _ _ => rfl)) (fun j _ => HB2.out j) rfl
  rw [HS1.out] at hc1
  rw [HS2.out] at hc2
  refine Hid.mk ?_
  go_wp2_with (refine wl_value (by rfl) (exec_eqS rfl (by rfl) (by rfl)) ?_)
  go_ret
  exact ⟨rfl, hB⟩

end Go.Proofs.YtcefoonflpofgaaDoor
/-
  Own text. A slice of texts as an argument, and what the bound on its bulk gives.
-/
namespace Go.Proofs.YtcefoonflpofgaaDoor
open Go.ChangeShapes Go.WideShapes Go.ChangeAt Go.WideMaps Go.WideElems Go.RowKit Go.Proofs Go.Lib
theorem bulk_cat {H : Type} (l r : List (DataW H)) : Rows.uptoBulkAll (l ++ r) = Rows.uptoBulkAll l + Rows.uptoBulkAll r := by
  induction l with
  | nil => simp [Rows.uptoBulkAll]
  | cons x l ih => simp only [List.cons_append, Rows.uptoBulkAll, ih]; omega
theorem bulk_strs {H : Type} (ss : List ByteArray) : ∀ n, n ≤ ss.length → Rows.uptoBulkAll (strs (H := H) (ss.take n)) = n + (joinB (fun i => ss.getD i ByteArray.empty) n).size
  | 0, _ => by simp [strs, Rows.uptoBulkAll, joinB]
  | n + 1, h => by
    have ih := bulk_strs (H := H) ss n (by omega)
    have hn : n < ss.length := by omega
    have e : ss.take (n + 1) = ss.take n ++ [ss.getD n ByteArray.empty] := by
      rw [List.take_succ_eq_append_getElem hn]
      simp [List.getD, hn]
    have hb : Rows.uptoBulkAll (strs (H := H) [ss.getD n ByteArray.empty]) = (ss.getD n ByteArray.empty).size + 1 := by
      simp only [strs, List.map_cons, List.map_nil, Rows.uptoBulkAll, Rows.uptoBulk, Array.length_toList]
      rfl
    have hs : strs (H := H) (ss.take n ++ [ss.getD n ByteArray.empty]) = strs (ss.take n) ++ strs [ss.getD n ByteArray.empty] := by simp [strs]
    rw [e, hs, bulk_cat, ih, hb, joinB, ByteArray.size_append]
    omega
theorem cellsStr : Tryd.prog.cellsOf 9 = 1 := by kernel_rfl
/-- A slice that is no longer than its array. -/
def CapOK (v : Value) : Prop := ∀ a m c, v = .slice a m c → m ≤ c
/-- An argument that is a slice of texts. -/
theorem open_strs {H : Type} {enc : TypeId × Value → H} {W : World} {base : Nat} {sp : Nat → Bool} {v : Value} {d : DataW H} {p : List MemPlace} (hv : Value.okWide Tryd.prog W .any base 22 v)
    (h : DataW.Trod enc Tryd.prog W 0 sp true 22 v d p) : ∃ n ts, Strs W v n ts ∧ CapOK v ∧ n + (joinB ts n).size ≤ Rows.uptoBulk d := by
  obtain ⟨a, len, cap, rfl⟩ := okWide_slice Tryd.underlying22 hv
  obtain ⟨fuel, hf⟩ := h
  rcases open_strings Tryd.underlying22 Tryd.underlying9 cellsStr hf with ⟨hcs, hx⟩ | ⟨ad, len', cap', ss, hcs, _, hl, hm, hz, hx, hcell, hsz⟩
  · simp [Value.cells] at hcs
    obtain ⟨rfl, rfl, rfl⟩ := hcs
    exact ⟨0, fun _ => ByteArray.empty, ⟨none, 0, rfl, fun h => by omega⟩, fun a m c e => by simp at e; omega, by simp [joinB]⟩
  · simp [Value.cells] at hcs
    obtain ⟨rfl, rfl, rfl⟩ := hcs
    have hle : len ≤ ss.length := by rw [hz]; split <;> omega
    simp only [Prod.mk.injEq] at hx
    refine ⟨len, fun i => ss.getD i ByteArray.empty, ⟨some ad, cap, rfl, fun _ => ⟨ad, rfl, fun j hj => hcell j (by omega)⟩⟩, fun a m c e => by simp at e; omega, ?_⟩
    rw [hx.1]
    simp only [Rows.uptoBulk]
    rw [bulk_strs ss len hle]
    omega
theorem small_le {H : Type} {l : List (DataW H)} (hk : Rows.uptoSmall H l = true) : Rows.uptoBulkAll l ≤ 1048576 := of_decide_eq_true hk
theorem strs_rec : Tryd.prog.readableRec 22 = true := by kernel_rfl
theorem strs_row : 22 < Tryd.prog.types.size := of_decide_eq_true (by kernel_rfl)
end Go.Proofs.YtcefoonflpofgaaDoor
/-
  Own text. What the tied condition on the variables 'beginnings' and 'orders' gives: the tables; arguments.
-/
namespace Go.Proofs.YtcefoonflpofgaaDoor
open Go.ChangeShapes Go.WideShapes Go.ChangeAt Go.WideMaps Go.WideElems Go.RowKit Go.Proofs
theorem cells32 : Tryd.prog.cellsOf 23 = 32 := by kernel_rfl
theorem arr32_rec : Tryd.prog.readableRec 23 = true := by kernel_rfl
theorem arr32_row : 23 < Tryd.prog.types.size := of_decide_eq_true (by kernel_rfl)
theorem own : ownKnob Tryd.prog.godebug = none := by kernel_rfl
def laidP : List (String × DataW Unit) := Rows.blakeSumsRow.laid
def begName : String := (laidP.map (·.1)).getD 0 "none"
def ordName : String := (laidP.map (·.1)).getD 1 "none"
theorem gBeg : Tryd.prog.globalNamed begName = some 0 := by kernel_rfl
theorem gOrd : Tryd.prog.globalNamed ordName = some 1 := by kernel_rfl
theorem tBeg : (Tryd.prog.globals[0]?).map (·.type) = some 52 := by kernel_rfl
theorem tOrd : (Tryd.prog.globals[1]?).map (·.type) = some 76 := by kernel_rfl
theorem cellsU32 : Tryd.prog.cellsOf 51 = 1 := by kernel_rfl
theorem cells16 : Tryd.prog.cellsOf 75 = 16 := by kernel_rfl
theorem bgn_list (i : Nat) (hi : i < 8) : ([.lit (.int .u32 1779033703), .lit (.int .u32 3144134277), .lit (.int .u32 1013904242), .lit (.int .u32 2773480762), .lit (.int .u32 1359893119), .lit (.int .u32 2600822924), .lit (.int .u32 528734635), .lit (.int .u32 1541459225)] : List (DataW Unit))[i]? = some (.lit (.int .u32 (bgn i))) := by
  match i, hi with
  | 0, _ => rfl
  | 1, _ => rfl
  | 2, _ => rfl
  | 3, _ => rfl
  | 4, _ => rfl
  | 5, _ => rfl
  | 6, _ => rfl
  | 7, _ => rfl
/-- A row of the ten, as data. -/
def ordD (s : Nat) : List (DataW Unit) := (List.range 16).map fun i => .lit (.int .u8 (ordI s i))
theorem ord_data : (Rows.laid_adit_blake_orders : DataW Unit) = .agg ((List.range 10).map fun s => .agg (ordD s)) := by kernel_rfl
theorem door_met (os : Os) (args : Array Value) : laidMet Tryd.prog laidP ((World.doorLaid Tryd.prog 400 os).forCall (fun _ _ => 0) ⟨#[], args, []⟩).memory :=
  laidMet_of_run' 8 (by kernel_rfl) (by kernel_rfl)
/-- What the condition on the variables gives the walks. -/
theorem tabs_of_laid {W : World} (h : laidMetH Tryd.prog laidP W) : Tabs W := by
  rw [MakeChecks.laidMetH_plain _ _ _ (by kernel_rfl)] at h
  obtain ⟨ps, ⟨g0, t0, cs0, f0, p0, q0, hg0, ht0, hv0, hd0, hrest, _⟩, _⟩ := h
  obtain ⟨g1, t1, cs1, f1, p1, q1, hg1, ht1, hv1, hd1, _, _⟩ := hrest
  obtain rfl := Option.some.inj (gBeg.symm.trans hg0)
  obtain rfl := Option.some.inj (tBeg.symm.trans ht0)
  obtain rfl := Option.some.inj (gOrd.symm.trans hg1)
  obtain rfl := Option.some.inj (tOrd.symm.trans ht1)
  refine ⟨fun i hi => ?_, fun s hs i hi => ?_⟩
  · obtain ⟨xs, m1, rfl, hx1, hlen, hn8, hel⟩ := DataW.trod_array Tryd.underlying52 hd0
    simp only [Prod.mk.injEq, Rows.laid_adit_blake_beginnings, DataW.agg.injEq] at hx1
    have hk := bgn_list i hi
    rw [hx1.1] at hk
    have h0 := hel i hi
    rw [cellsU32, Nat.mul_one] at h0
    have hxi : i < xs.length := by omega
    rw [List.getElem?_eq_getElem hxi] at h0
    obtain ⟨k', e1, e2, _⟩ := DataW.trod_int Tryd.underlying51 h0
    have hk2 : k' = bgn i := by
      rw [List.getElem?_map, List.getElem?_eq_getElem hxi, e2] at hk
      simpa using hk
    subst hk2
    rw [World.var?_cell hg0 hv0 i]
    have : cs0.toList[i]? = some (.int .u32 (bgn i)) := by
      have h2 := congrArg (fun l => l[0]?) e1
      simpa [List.getElem?_take, List.getElem?_drop] using h2
    simpa using this
  · obtain ⟨xs, m1, rfl, hx1, hlen, hn10, hel⟩ := DataW.trod_array Tryd.underlying76 hd1
    rw [ord_data] at hx1
    simp only [Prod.mk.injEq, DataW.agg.injEq] at hx1
    have hxs : s < xs.length := by omega
    have hr : (xs[s]).1 = .agg (ordD s) := by
      have := congrArg (fun l => l[s]?) hx1.1
      simp [hs, hxs] at this
      exact this.symm
    have h0 := hel s hs
    rw [cells16, List.getElem?_eq_getElem hxs] at h0
    obtain ⟨ys, m2, rfl, hy, hlen2, hn16, hel2⟩ := DataW.trod_array Tryd.underlying75 h0
    have hyd : ys.map (·.1) = ordD s := by
      have h3 := congrArg Prod.fst hy
      rw [hr] at h3
      simpa using h3.symm
    have hyi : i < ys.length := by omega
    have h1 := hel2 i hi
    rw [cells5, Nat.mul_one, List.getElem?_eq_getElem hyi] at h1
    obtain ⟨k', e1, e2, _⟩ := DataW.trod_int Tryd.underlying5 h1
    have hk2 : k' = ordI s i := by
      have h4 := congrArg (fun l => l[i]?) hyd
      simp only [List.getElem?_map, List.getElem?_eq_getElem hyi, e2, Option.map_some, ordD] at h4
      simpa [hi] using h4
    subst hk2
    rw [World.var?_cell hg1 hv1 (s * 16 + i)]
    have : cs1.toList[s * 16 + i]? = some (.int .u8 (ordI s i)) := by
      have h2 := congrArg (fun l => l[0]?) e1
      simpa [List.getElem?_take, List.getElem?_drop, hi] using h2
    simpa using this
end Go.Proofs.YtcefoonflpofgaaDoor
/-
  Own text. The walks of the laws BlakeSums, BlakeKeys, BlakeMacs.
-/
namespace Go.Proofs.YtcefoonflpofgaaDoor
open Go.RowKit Go.Proofs
theorem cellq {w : World} {g n : Nat} {cur : Array Value} {q : ByteArray} (h : w.heap[g]? = some (.cells cur 9 (0, 0))) (hq : cur[n]? = some (.string q)) : w.cell? ⟨g, n, none⟩ = some (.string q) := by
  rw [cell_of_row w g _ _ _ _ h, hq]
theorem eqG32 : Tryd.prog.eqGuardType Tryd.prog.depth 23 = false := by kernel_rfl
set_option maxHeartbeats 1600000 in
theorem sums_walk (v : Value) (n : Nat) (ts : Nat → ByteArray) (w : World) (hT : Tabs w) (hS : Strs w v n ts) (hb : n + (joinB ts n).size ≤ 1048576) : Calls Tryd.prog 3 #[v] w fun e w' => e = .returned (.bool true) ∧ Below w.heap.size w w' := by
  have HN : Hid (n < 4611686018427387904) := Hid.mk (by omega)
  have HJ : Hid ((joinB ts n).size ≤ 140737488355328) := Hid.mk (by omega)
  have h2 := hT.two
  have HT : Hid (∀ u, Below w.heap.size w u → Tabs u) := Hid.mk (fun u hu => hT.below hu h2)
  have hS1 := hS
  obtain ⟨ad, c, rfl, hp⟩ := hS
  have HV : Hid (Strs w (.slice ad n c) n ts) := Hid.mk ⟨ad, c, rfl, hp⟩
  clear hp hT
  go_enter Tryd.func3, Tryd.ntmps3
  go_wp2_with (refine wl_bs0 ?_; intro v2 hO hb2; refine Hid.out ?_)
  have hB := hb2
  replace hS1 := hS1.below hb2
  have hsz2 := hb2.size
  clear hb2
  refine Hid.mk ?_
  go_wp2_with (refine ap_strs (by rfl) (by rfl) hO hS1 (by omega) hsz2 ?_; intro v3 w3 hO3 hb3; refine Hid.out ?_)
  replace hB := hB.trans (hb3.mono (by omega))
  rw [Nat.zero_add, List.nil_append] at hO3
  have hsz3 := hb3.size
  clear hb3 hO hS1
  refine Hid.mk ?_
  go_wp2_with (refine wl_bs1 (by rfl) ?_; intro w4 hS4 hb4 hz4; refine Hid.out ?_)
  have hO4 := own_kept hO3 hb4
  replace hB := hB.trans (hb4.mono hB.size)
  clear hO3
  refine Hid.mk ?_
  go_wp2_with (refine ap_strs (by rfl) (by rfl) hO4 hS4 (by omega) (by omega) ?_; intro v5 w5 hO5 hb5; refine Hid.out ?_)
  replace hB := hB.trans (hb5.mono (by omega))
  obtain ⟨g, cap, cur, rfl, hgB, hcap, hg, hcs, hcq⟩ := own_strs (q := ⟨#[63]⟩) hO5
  have HC : Hid (n ≤ cap) := Hid.mk (by omega)
  have hs6 := strs_row' (cap := cap) hg hcs
  have HQ := Hid.mk hcq
  clear hO4 hO5 hS4 hb5 hcs hcq hb4
  have hsl := fun u => slStr (some ⟨g, 0, none⟩) n (n + 1) cap u HC.out
  refine Hid.mk ?_
  go_wp2_with fail
  refine (Sum_run _ n ts w5 (HT.out _ hB) hs6 HN.out (by have := HJ.out; omega)).mono ?_
  rintro e v6 ⟨rfl, hb6⟩
  replace hg : v6.heap[g]? = some (.cells cur 9 (0, 0)) := bheap hb6 hg (heap_lt hg)
  replace hB := hB.trans (hb6.mono hB.size)
  clear hb6 hs6 hsl
  go_wp2_with fail
  refine (joined_run _ n ts v6 (HV.out.below hB) HN.out HJ.out).mono ?_
  rintro e v7 ⟨rfl, hb7⟩
  replace hg : v7.heap[g]? = some (.cells cur 9 (0, 0)) := bheap hb7 hg (heap_lt hg)
  replace hB := hB.trans (hb7.mono hB.size)
  clear hb7
  go_wp2_with fail
  refine (rSum_run (joinB ts n) v7 (by have := HJ.out; omega)).mono ?_
  rintro e v8 ⟨rfl, hb8⟩
  replace hg : v8.heap[g]? = some (.cells cur 9 (0, 0)) := bheap hb8 hg (heap_lt hg)
  replace hB := hB.trans (hb8.mono hB.size)
  clear hb8
  have hcq := cellq hg HQ.out
  generalize sumF (joinB ts n) = Z at *
  go_wp2_with (refine wl_value rfl (eql_WA rfl Tryd.underlying23 eqG32 (by rfl) (by rfl)) ?_)
  refine (awake_run v8 (HT.out _ hB)).mono ?_
  rintro e v9 ⟨rfl, hb9⟩
  go_wp2_with fail
  go_ret
  exact ⟨rfl, hB.trans (hb9.mono hB.size)⟩
set_option maxHeartbeats 1600000 in
theorem keys_walk (size : Int) (key : ByteArray) (v : Value) (n : Nat) (ts : Nat → ByteArray) (w : World) (hT : Tabs w) (hS : Strs w v n ts) (hb : n + (joinB ts n).size ≤ 1048576) : Calls Tryd.prog 4 #[.int .i64 size, .string key, v] w fun e w' => e = .returned (.bool true) ∧ Below w.heap.size w w' := by
  have h2 := hT.two
  have HT : Hid (∀ u, Below w.heap.size w u → Tabs u) := Hid.mk (fun u hu => hT.below hu h2)
  have HV : Hid (∀ u, Below w.heap.size w u → Strs u v n ts) := Hid.mk (fun u hu => hS.below hu)
  have h1 := Keyed_run size key v n ts w hT hS (by omega) (by omega)
  have hJ := fun u h => joined_run v n ts u h (by omega) (by omega)
  have hR := fun u => rKeyed_run size key (joinB ts n) u (by omega)
  generalize keyedT size key (joinB ts n) = K at *
  clear hT hS
  go_enter Tryd.func4, Tryd.ntmps4
  go_wp2_with fail
  refine h1.mono ?_
  rintro e v1 ⟨rfl, hB⟩
  go_wp2_with fail
  refine (hJ _ (HV.out _ hB)).mono ?_
  rintro e v2 ⟨rfl, hb2⟩
  replace hB := hB.trans (hb2.mono hB.size)
  clear hb2
  go_wp2_with fail
  refine (hR _).mono ?_
  rintro e v3 ⟨rfl, hb3⟩
  replace hB := hB.trans (hb3.mono hB.size)
  clear hb3
  go_wp2_with (refine wl_value rfl (exec_eqS rfl (by rfl) (by rfl)) ?_)
  refine (awake_run v3 (HT.out _ hB)).mono ?_
  rintro e v9 ⟨rfl, hb9⟩
  go_wp2_with fail
  go_ret
  exact ⟨rfl, hB.trans (hb9.mono hB.size)⟩
set_option maxHeartbeats 1600000 in
theorem macs_walk (key : ByteArray) (v : Value) (n : Nat) (ts : Nat → ByteArray) (w : World) (hT : Tabs w) (hS : Strs w v n ts) (hk : key.size ≤ 1048576) (hb : n + (joinB ts n).size ≤ 1048576) : Calls Tryd.prog 5 #[.string key, v] w fun e w' => e = .returned (.bool true) ∧ Below w.heap.size w w' := by
  have h2 := hT.two
  have HT : Hid (∀ u, Below w.heap.size w u → Tabs u) := Hid.mk (fun u hu => hT.below hu h2)
  have HV : Hid (∀ u, Below w.heap.size w u → Strs u v n ts) := Hid.mk (fun u hu => hS.below hu)
  have h1 := MAC_run key v n ts w hT (by omega) hS (by omega) (by omega)
  have hJ := fun u h => joined_run v n ts u h (by omega) (by omega)
  have hR := fun u => rMAC_run key (joinB ts n) u (by omega) (by omega)
  generalize macF key (joinB ts n) = K at *
  clear hT hS
  go_enter Tryd.func5, Tryd.ntmps5
  go_wp2_with fail
  refine h1.mono ?_
  rintro e v1 ⟨rfl, hB⟩
  go_wp2_with fail
  refine (hJ _ (HV.out _ hB)).mono ?_
  rintro e v2 ⟨rfl, hb2⟩
  replace hB := hB.trans (hb2.mono hB.size)
  clear hb2
  go_wp2_with fail
  refine (hR _).mono ?_
  rintro e v3 ⟨rfl, hb3⟩
  replace hB := hB.trans (hb3.mono hB.size)
  clear hb3
  go_wp2_with (refine wl_value rfl (eql_WA rfl Tryd.underlying23 eqG32 (by rfl) (by rfl)) ?_)
  refine (awake_run v3 (HT.out _ hB)).mono ?_
  rintro e v9 ⟨rfl, hb9⟩
  go_wp2_with fail
  go_ret
  exact ⟨rfl, hB.trans (hb9.mono hB.size)⟩
end Go.Proofs.YtcefoonflpofgaaDoor
