/-
  Own text. The walk of the law PolyPieces.
-/
import Derived.Test.YtfbeclleeehaaaaQ2a
import Derived.Test.YtfbeclleeehaaaaQ1
namespace Go.Proofs.Ytfbeclleeehaaaa
open Go.RowKit Go.Proofs
theorem zero16 (w : World) : (zeroValue 23).run Try.prog w = .ok (.agg (WA .u8 16 fun _ => 0)) w := by kernel_rfl
theorem cellq {w : World} {g n : Nat} {cur : Array Value} {q : ByteArray} (h : w.heap[g]? = some (.cells cur 9 (0, 0))) (hq : cur[n]? = some (.string q)) : w.cell? ⟨g, 0 + n, none⟩ = some (.string q) := by
  rw [Nat.zero_add, cell_of_row w g _ _ _ _ h, hq]
set_option maxHeartbeats 4000000 in
set_option maxRecDepth 100000 in
theorem pieces_walk (key : Nat → Int) (v : Value) (n : Nat) (ts : Nat → ByteArray) (w : World) (hk : Byts 32 key) (hS : Strs w v n ts) (hb : n + (joinB ts n).size ≤ 1048576) : Calls Try.prog 4 #[.agg (WA .u8 32 key), v] w fun e w' => e = .returned (.bool true) ∧ Below w.heap.size w w' := by
  have g0 : ArrAt (w.alloc (.cells (WA .u8 32 key) 22)) w.heap.size .u8 22 32 key := heap_alloc_new w _
  have hB : Below w.heap.size w (w.alloc (.cells (WA .u8 32 key) 22)) := (Below.refl _ w).alloc (Nat.le_refl _) _
  have HK := Hid.mk hk
  have HN : Hid (n < 4611686018427387904) := Hid.mk (by omega)
  have HJ : Hid ((joinB ts n).size ≤ 140737488355328) := Hid.mk (by omega)
  have hS1 := hS.below hB
  obtain ⟨ad, c, rfl, hp⟩ := hS
  have HV : Hid (Strs w (.slice ad n c) n ts) := Hid.mk ⟨ad, c, rfl, hp⟩
  clear hk hp
  go_enter Try.func4, Try.ntmps4
  go_wp2_with (refine wl_bs0 ?_; intro v2 hO hb2; refine Hid.out ?_)
  have hz0 := g0.lt
  replace g0 := g0.kept hb2
  replace hB := hB.trans (hb2.mono hB.size)
  replace hS1 := hS1.below hb2
  have hsz2 := hb2.size
  clear hb2
  rw [World.size_alloc] at hO hsz2
  refine Hid.mk ?_
  go_wp2_with (refine ap_strs (by rfl) (by rfl) hO hS1 (by omega) hsz2 ?_; intro v3 w3 hO3 hb3; refine Hid.out ?_)
  replace g0 := g0.below hb3 (by omega)
  replace hB := hB.trans (hb3.mono (by omega))
  rw [Nat.zero_add, List.nil_append] at hO3
  have hsz3 := hb3.size
  clear hb3 hO hS1
  refine Hid.mk ?_
  go_wp2_with (refine wl_bs1 (by rfl) ?_; intro w4 hS4 hb4 hz4; refine Hid.out ?_)
  have hO4 := own_kept hO3 hb4
  replace g0 := g0.kept hb4
  replace hB := hB.trans (hb4.mono hB.size)
  clear hO3
  refine Hid.mk ?_
  go_wp2_with (refine ap_strs (by rfl) (by rfl) hO4 hS4 (by omega) (by omega) ?_; intro v5 w5 hO5 hb5; refine Hid.out ?_)
  replace g0 := g0.below hb5 (by omega)
  replace hB := hB.trans (hb5.mono (by omega))
  obtain ⟨g, cap, cur, rfl, hgB, hcap, hg, hcs, hcq⟩ := own_strs (q := ⟨#[63]⟩) hO5
  have HC : Hid (n ≤ cap) := Hid.mk (by omega)
  have HR := Hid.mk hcs
  have HQ := Hid.mk hcq
  clear hO4 hO5 hS4 hb5 hcs hcq hb4
  refine Hid.mk ?_
  go_wp2_with fail
  refine wp_gen (fun u => ArrAt u w.heap.size .u8 22 32 key ∧ u.heap[g]? = some (.cells cur 9 (0, 0)) ∧ Below w.heap.size w u) ⟨g0, hg, hB⟩ ?_
  clear g0 hB hg
  rintro v0 ⟨g0, hg, hB⟩
  have hv0 := hB.size
  refine wp_region3 (Below w.heap.size w) v0.heap.size
    [(w.heap.size, fixd (WA .u8 32 key) 22), (g, fixd (cur) 9)]
    [kv (.agg (WA .u8 32 (key))), kv (.slice (some ⟨g, 0, none⟩) (n + 1) cap), kv (.slice ad n c), kv (.int .i64 (n : Int)), kv (.slice (some ⟨g, 0, none⟩) n cap), kv (.agg (WA .u8 16 (digN (markN key (txt (joinB ts n)) (joinB ts n).size)))), kp (WA .u8 16 fun _ => 0) 23 7 (WA .u8 16 (digN (markN key (txt (joinB ts n)) (joinB ts n).size))), .val fun _ => True]
    [.none, .none, .none, .none, .none, .none, .none, .own 6 1]
    [some 12, some 13, some 14, some 15, some 16, some 17, some 6, none]
    [(2, .pointer (some ⟨w.heap.size, 0, none⟩)), (5, .slice (some ⟨g, 0, none⟩) (n + 1) cap), (1, .slice ad n c)]
    [[.base 0 0], [], [], [.slot 2], [.slot 1, .slot 3], [.slot 0, .slot 4, .base 1 0], [], [.slot 6, .cont 6 0, .slot 5]]
    [.slot 6, .cont 6 1, .base 0 0, .base 1 0] [12, 13, 14, 15, 16, 17, 6]
    rfl (by kernel_rfl) ⟨rfl, rfl, rfl, trivial⟩ (Below.drew hB) (Nat.le_refl _) ⟨⟨g0.lt, obIn g0⟩, ⟨heap_lt hg, obIn hg⟩, trivial⟩ ⟨⟨trivial, trivial⟩, trivial, trivial⟩ (below_G hB.size ⟨by omega, by omega, trivial⟩)
    ⟨
      -- 0
      (fun Q aq ww own hS hBg fr kn => .inl ⟨trivial, fun K hK => wp_value (look_arr rfl isArr32 (obAt kn.1) fr.1) (hK _ _ ⟨Touch.refl _ _, rfl⟩)⟩),
      -- 1
      (fun Q aq ww own hS hBg fr kn => .inl ⟨trivial, fun K hK => wp_value (exec_move rfl fr.2.1) (hK _ _ ⟨Touch.refl _ _, rfl⟩)⟩),
      -- 2
      (fun Q aq ww own hS hBg fr kn => .inl ⟨trivial, fun K hK => wp_value (exec_move rfl fr.2.2.1) (hK _ _ ⟨Touch.refl _ _, rfl⟩)⟩),
      -- 3
      (fun Q aq ww own hS hBg fr kn => .inl ⟨trivial, fun K hK => wp_value (exec_lenV rfl kn.1) (hK _ _ ⟨Touch.refl _ _, rfl⟩)⟩),
      -- 4
      (fun Q aq ww own hS hBg fr kn => .inl ⟨trivial, fun K hK => wp_value (exec_slH rfl kn.1 kn.2.1 (slStr _ n _ cap _ HC.out)) (hK _ _ ⟨Touch.refl _ _, rfl⟩)⟩),
      -- 5
      (fun Q aq ww own hS hBg fr kn => .inl ⟨trivial, fun K hK => stepc enterTag rfl (args2 kn.1 kn.2.1) (Tag_run key _ n ts ww HK.out (strs_row' (obAt kn.2.2.1) HR.out) HN.out) (fun w' hb => hK _ _ ⟨touch_below hb, rfl⟩)⟩),
      -- 6
      (fun Q aq ww own hS hBg fr kn => .inl ⟨trivial, fun K hK => act_alloc zero16 rfl (fun w' hb hg => hK _ _ ⟨touch_below hb, _, Nat.le_refl _, rfl, obIn hg⟩)⟩),
      -- 7
      (fun Q aq ww own hS hBg fr kn => .inl ⟨trivial, fun K hK => act_arr rfl isArr16 kn.1.1 kn.2.2.1 (obAt kn.2.1) (fun w2 hg ho => hK _ _ ⟨touch_only ho, obIn hg, trivial⟩)⟩),
      trivial⟩ ?_
  intro vs own v1 hB1 hs1 kn inj
  clear inj hs1 g0 hg hB
  obtain ⟨k6, k6b, k60, k6g, -⟩ := kn
  obtain ⟨e6, hb6, _⟩ := k6
  change vs 6 = _ at e6
  have g6 : ArrAt v1 (own 6) .u8 23 16 (digN (markN key (txt (joinB ts n)) (joinB ts n).size)) := obAt k6b
  have g0 : ArrAt v1 w.heap.size .u8 22 32 key := obAt k60
  have hg : v1.heap[g]? = some (.cells cur 9 (0, 0)) := obAt k6g
  have hB := hB1
  clear k6b k60 k6g hB1
  simp only [putAll, Act.put, List.setIfInBounds_toArray, List.set_cons_zero, List.set_cons_succ, e6]
  clear e6
  generalize own 6 = b6 at *
  go_wp2_with fail
  refine wp_region3 (Below w.heap.size w) v1.heap.size
    [(w.heap.size, fixd (WA .u8 32 key) 22), (g, fixd (cur) 9), (b6, fixd (WA .u8 16 (digN (markN key (txt (joinB ts n)) (joinB ts n).size))) 23)]
    [kv (.agg (WA .u8 16 (digN (markN key (txt (joinB ts n)) (joinB ts n).size)))), kv (.agg (WA .u8 32 (key))), kv (.slice ad n c), kv (.string (joinB ts n)), kv (.agg (WA .u8 16 (digN (markN key (txt (joinB ts n)) (joinB ts n).size)))), kv (.bool true), kv (.bool true), kv (.slice (some ⟨g, 0, none⟩) (n + 1) cap), kv (.slice ad n c), kv (.int .i64 (n : Int)), kv (.pointer (some ⟨g, 0 + n, none⟩)), kv (.string ⟨#[63]⟩), kv (.bool true), kv (.bool true), kv (.bool true), kv (.bool true), kv (.bool true), kv (.bool true)]
    [.none, .none, .none, .none, .none, .none, .none, .none, .none, .none, .none, .none, .none, .none, .none, .none, .none, .none]
    [some 18, some 19, some 20, some 21, some 22, some 23, some 24, some 25, some 26, some 27, some 28, some 29, some 30, some 31, some 32, some 33, some 34, some 4]
    [(2, .pointer (some ⟨w.heap.size, 0, none⟩)), (5, .slice (some ⟨g, 0, none⟩) (n + 1) cap), (1, .slice ad n c), (6, .pointer (some ⟨b6, 0, none⟩))]
    [[.base 2 0], [.base 0 0], [], [.slot 2], [.slot 1, .slot 3], [.slot 0, .slot 4], [.slot 5], [.slot 6], [.slot 6], [.slot 6, .slot 8], [.slot 6, .slot 7, .slot 9], [.slot 6, .slot 10, .base 1 0], [.slot 6, .slot 11], [.slot 6, .slot 12], [.slot 13], [.slot 14], [.slot 14, .slot 15], [.slot 16]]
    [.slot 17] [18, 19, 20, 21, 22, 23, 24, 25, 26, 27, 28, 29, 30, 31, 32, 33, 34, 4]
    rfl (by kernel_rfl) ⟨rfl, rfl, rfl, rfl, trivial⟩ (Below.drew hB) (Nat.le_refl _) ⟨⟨g0.lt, obIn g0⟩, ⟨heap_lt hg, obIn hg⟩, ⟨g6.lt, obIn g6⟩, trivial⟩ ⟨⟨trivial, trivial, trivial⟩, ⟨trivial, trivial⟩, trivial, trivial⟩ (below_G hB.size ⟨by omega, by omega, by omega, trivial⟩)
    ⟨
      -- 0
      (fun Q aq ww own hS hBg fr kn => .inl ⟨trivial, fun K hK => wp_value (look_arr rfl isArr16 (obAt kn.1) fr.2.2.2.1) (hK _ _ ⟨Touch.refl _ _, rfl⟩)⟩),
      -- 1
      (fun Q aq ww own hS hBg fr kn => .inl ⟨trivial, fun K hK => wp_value (look_arr rfl isArr32 (obAt kn.1) fr.1) (hK _ _ ⟨Touch.refl _ _, rfl⟩)⟩),
      -- 2
      (fun Q aq ww own hS hBg fr kn => .inl ⟨trivial, fun K hK => wp_value (exec_move rfl fr.2.2.1) (hK _ _ ⟨Touch.refl _ _, rfl⟩)⟩),
      -- 3
      (fun Q aq ww own hS hBg fr kn => .inl ⟨trivial, fun K hK => stepc enterJoined rfl (args1 kn.1) (joined_run _ n ts ww (HV.out.below hS) HN.out HJ.out) (fun w' hb => hK _ _ ⟨touch_below hb, rfl⟩)⟩),
      -- 4
      (fun Q aq ww own hS hBg fr kn => .inl ⟨trivial, fun K hK => stepc enterRTag rfl (args2 kn.1 kn.2.1) (rTag_run key (joinB ts n) ww HK.out HJ.out) (fun w' hb => hK _ _ ⟨touch_below hb, rfl⟩)⟩),
      -- 5
      (fun Q aq ww own hS hBg fr kn => .inl ⟨trivial, fun K hK => wp_value (eql_WA rfl Try.underlying23 eqG16 kn.1 kn.2.1) (hK _ _ ⟨Touch.refl _ _, rfl⟩)⟩),
      -- 6
      (fun Q aq ww own hS hBg fr kn => .inl ⟨trivial, fun K hK => wp_value (exec_move rfl kn.1) (hK _ _ ⟨Touch.refl _ _, rfl⟩)⟩),
      -- 7
      (fun Q aq ww own hS hBg fr kn => .inl ⟨kn.1, fun K hK => wp_value (exec_move rfl fr.2.1) (hK _ _ ⟨Touch.refl _ _, rfl⟩)⟩),
      -- 8
      (fun Q aq ww own hS hBg fr kn => .inl ⟨kn.1, fun K hK => wp_value (exec_move rfl fr.2.2.1) (hK _ _ ⟨Touch.refl _ _, rfl⟩)⟩),
      -- 9
      (fun Q aq ww own hS hBg fr kn => .inl ⟨kn.1, fun K hK => wp_value (exec_lenV rfl kn.2.1) (hK _ _ ⟨Touch.refl _ _, rfl⟩)⟩),
      -- 10
      (fun Q aq ww own hS hBg fr kn => .inl ⟨kn.1, fun K hK => wp_value (exec_idx rfl Try.underlying28 size_str kn.2.1 kn.2.2.1 (by omega)) (hK _ _ ⟨Touch.refl _ _, rfl⟩)⟩),
      -- 11
      (fun Q aq ww own hS hBg fr kn => .inl ⟨kn.1, fun K hK => wp_value (exec_ld rfl kn.2.1 (load_str (cellq (obAt kn.2.2.1) HQ.out))) (hK _ _ ⟨Touch.refl _ _, rfl⟩)⟩),
      -- 12
      (fun Q aq ww own hS hBg fr kn => .inl ⟨kn.1, fun K hK => wp_value (exec_eqS rfl kn.2.1 rfl) (hK _ _ ⟨Touch.refl _ _, rfl⟩)⟩),
      -- 13
      (fun Q aq ww own hS hBg fr kn => .inl ⟨trivial, fun K hK => wp_value (exec_pick rfl kn.1 kn.2.1) (hK _ _ ⟨Touch.refl _ _, rfl⟩)⟩),
      -- 14
      (fun Q aq ww own hS hBg fr kn => .inl ⟨trivial, fun K hK => wp_value (exec_move rfl kn.1) (hK _ _ ⟨Touch.refl _ _, rfl⟩)⟩),
      -- 15
      (fun Q aq ww own hS hBg fr kn => .inl ⟨kn.1, fun K hK => stepc enterAwake rfl args0 (awake_run ww) (fun w' hb => hK _ _ ⟨touch_below hb, rfl⟩)⟩),
      -- 16
      (fun Q aq ww own hS hBg fr kn => .inl ⟨trivial, fun K hK => wp_value (exec_pick rfl kn.1 kn.2.1) (hK _ _ ⟨Touch.refl _ _, rfl⟩)⟩),
      -- 17
      (fun Q aq ww own hS hBg fr kn => .inl ⟨trivial, fun K hK => wp_value (exec_assign rfl kn.1) (hK _ _ ⟨Touch.refl _ _, rfl⟩)⟩),
      trivial⟩ ?_
  intro vs own v2 hB2 hs2 kn inj
  clear inj hs2 g0 hg g6 hB
  have e4 : vs 4 = .bool true := kn.1
  clear kn
  simp only [putAll, Act.put, List.setIfInBounds_toArray, List.set_cons_zero, List.set_cons_succ]
  rw [e4]
  go_wp2_with fail
  go_ret
  exact ⟨rfl, hB2⟩
end Go.Proofs.Ytfbeclleeehaaaa
