/-
  Own text. The document's narrow.
-/
import Derived.Test.YtfkgfojofdachaaJ5
import Derived.Lib.LazyBuf
import Derived.Test.YtfkgfojofdachaaJ1
namespace Go.Proofs.Ytfkgfojofdachaa
open Go.RowKit Go.Proofs
set_option maxRecDepth 100000
set_option maxHeartbeats 8000000 in
theorem rnarrow_run (key nn : Nat → Int) (w : World) (hk : Byts 32 key) (hn : Byts 24 nn) :
    Calls Try.prog 26 #[.agg (WA .u8 32 key), .agg (WA .u8 24 nn)] w fun e w' => e = .returned (.tuple #[.agg (WA .u8 32 (der key nn)), .agg (WA .u8 12 (tailN fun j => nn (16 + j)))]) ∧ Below w.heap.size w w' := by
  have g0 : ArrAt ((((w.alloc (.cells (WA .u8 32 key) 22)).alloc (.cells (WA .u8 24 nn) 23)).alloc (.cells (WA .u8 32 fun _ => 0) 22)).alloc (.cells (WA .u8 12 fun _ => 0) 24)) w.heap.size .u8 22 32 key := heap_a41 w _ _ _ _
  have g1 : ArrAt ((((w.alloc (.cells (WA .u8 32 key) 22)).alloc (.cells (WA .u8 24 nn) 23)).alloc (.cells (WA .u8 32 fun _ => 0) 22)).alloc (.cells (WA .u8 12 fun _ => 0) 24)) (w.heap.size + 1) .u8 23 24 nn := heap_a42 w _ _ _ _
  have g2 : ArrAt ((((w.alloc (.cells (WA .u8 32 key) 22)).alloc (.cells (WA .u8 24 nn) 23)).alloc (.cells (WA .u8 32 fun _ => 0) 22)).alloc (.cells (WA .u8 12 fun _ => 0) 24)) (w.heap.size + 1 + 1) .u8 22 32 (fun _ => 0) := heap_a43 w _ _ _ _
  have g3 : ArrAt ((((w.alloc (.cells (WA .u8 32 key) 22)).alloc (.cells (WA .u8 24 nn) 23)).alloc (.cells (WA .u8 32 fun _ => 0) 22)).alloc (.cells (WA .u8 12 fun _ => 0) 24)) (w.heap.size + 1 + 1 + 1) .u8 24 12 (fun _ => 0) := heap_a4 w _ _ _ _
  have hB : Below w.heap.size w ((((w.alloc (.cells (WA .u8 32 key) 22)).alloc (.cells (WA .u8 24 nn) 23)).alloc (.cells (WA .u8 32 fun _ => 0) 22)).alloc (.cells (WA .u8 12 fun _ => 0) 24)) := ((((Below.refl _ w).alloc (by simp) _).alloc (by simp) _).alloc (by simp; omega) _).alloc (by simp; omega) _
  have HI : Hid (Byts 16 nn) := Hid.mk (fun i hi => hn i (by omega))
  have HK := Hid.mk hk
  go_enter Try.func26, Try.ntmps26
  have g5 : ArrAt (((((w.alloc (.cells (WA .u8 32 key) 22)).alloc (.cells (WA .u8 24 nn) 23)).alloc (.cells (WA .u8 32 fun _ => 0) 22)).alloc (.cells (WA .u8 12 fun _ => 0) 24)).alloc (.cells (WA .u8 16 fun _ => 0) 42)) (w.heap.size + 1 + 1 + 1 + 1) .u8 42 16 (fun _ => 0) := by
    have h := heap_alloc_new ((((w.alloc (.cells (WA .u8 32 key) 22)).alloc (.cells (WA .u8 24 nn) 23)).alloc (.cells (WA .u8 32 fun _ => 0) 22)).alloc (.cells (WA .u8 12 fun _ => 0) 24)) (.cells (WA .u8 16 fun _ => 0) 42)
    simpa [ArrAt] using h
  replace g0 := g0.alloc (.cells (WA .u8 16 fun _ => 0) 42)
  replace g1 := g1.alloc (.cells (WA .u8 16 fun _ => 0) 42)
  replace g2 := g2.alloc (.cells (WA .u8 16 fun _ => 0) 42)
  replace g3 := g3.alloc (.cells (WA .u8 16 fun _ => 0) 42)
  replace hB := hB.alloc hB.size (.cells (WA .u8 16 fun _ => 0) 42)
  go_wp2_with fail
  refine wp_gen (fun v => ArrAt v (w.heap.size + 1 + 1 + 1 + 1) .u8 42 16 (fun _ => 0) ∧ ArrAt v w.heap.size .u8 22 32 (key) ∧ ArrAt v (w.heap.size + 1) .u8 23 24 (nn) ∧ ArrAt v (w.heap.size + 1 + 1) .u8 22 32 (fun _ => 0) ∧ ArrAt v (w.heap.size + 1 + 1 + 1) .u8 24 12 (fun _ => 0) ∧ Below w.heap.size w v) ⟨g5, g0, g1, g2, g3, hB⟩ ?_
  clear g5 g0 g1 g2 g3 hB
  rintro v0 ⟨g5, g0, g1, g2, g3, hB⟩
  refine wp_region3 (Below w.heap.size w) v0.heap.size
    [((w.heap.size + 1 + 1 + 1 + 1), once (WA .u8 16 (fun _ => 0)) 42 2 (WA .u8 16 (over (fun _ => 0) 0 16 (nn)))), (w.heap.size, fixd (WA .u8 32 (key)) 22), ((w.heap.size + 1), fixd (WA .u8 24 (nn)) 23), ((w.heap.size + 1 + 1), fixd (WA .u8 32 (fun _ => 0)) 22), ((w.heap.size + 1 + 1 + 1), fixd (WA .u8 12 (fun _ => 0)) 24)]
    [kv (.slice (some ⟨(w.heap.size + 1 + 1 + 1 + 1), 0, none⟩) 16 16), kv (.slice (some ⟨(w.heap.size + 1), 0, none⟩) 16 24), .val fun _ => True]
    [.none, .none, .base 0 1]
    [some 8, some 9, some 10]
    [(6, .pointer (some ⟨(w.heap.size + 1 + 1 + 1 + 1), 0, none⟩)), (3, .pointer (some ⟨(w.heap.size + 1), 0, none⟩))]
    [[], [], [.slot 0, .slot 1, .base 0 0, .base 2 0]]
    [.base 0 1, .base 1 0, .base 2 0, .base 3 0, .base 4 0] [8, 9, 10]
    rfl (by kernel_rfl) ⟨rfl, rfl, trivial⟩ (Below.drew hB) (Nat.le_refl _) ⟨⟨g5.lt, obIn g5⟩, ⟨g0.lt, obIn g0⟩, ⟨g1.lt, obIn g1⟩, ⟨g2.lt, obIn g2⟩, ⟨g3.lt, obIn g3⟩, trivial⟩ ⟨⟨(show ((w.heap.size + 1 + 1 + 1 + 1) : Nat) ≠ w.heap.size from by omega), (show ((w.heap.size + 1 + 1 + 1 + 1) : Nat) ≠ (w.heap.size + 1) from by omega), (show ((w.heap.size + 1 + 1 + 1 + 1) : Nat) ≠ (w.heap.size + 1 + 1) from by omega), (show ((w.heap.size + 1 + 1 + 1 + 1) : Nat) ≠ (w.heap.size + 1 + 1 + 1) from by omega), trivial⟩, ⟨trivial, trivial, trivial, trivial⟩, ⟨trivial, trivial, trivial⟩, ⟨trivial, trivial⟩, trivial, trivial⟩ (below_G hB.size ⟨by omega, by omega, by omega, by omega, by omega, trivial⟩)
    ⟨
      -- 0
      (fun Q aq ww own hS hBg fr kn => .inl ⟨trivial, fun K hK => wp_value (exec_sl (v := .pointer (some ⟨(w.heap.size + 1 + 1 + 1 + 1), 0, none⟩)) rfl fr.1 (sl16W (w.heap.size + 1 + 1 + 1 + 1) ww)) (hK _ _ ⟨Touch.refl _ _, rfl⟩)⟩),
      -- 1
      (fun Q aq ww own hS hBg fr kn => .inl ⟨trivial, fun K hK => wp_value (exec_slH (v := .pointer (some ⟨(w.heap.size + 1), 0, none⟩)) (u := .int .i64 16) rfl fr.2.1 rfl (sl24H16 (w.heap.size + 1) ww)) (hK _ _ ⟨Touch.refl _ _, rfl⟩)⟩),
      -- 2
      (fun Q aq ww own hS hBg fr kn => .inl ⟨trivial, fun K hK => act_copy rfl kn.1 kn.2.1 (obAt kn.2.2.1) (m := 16) rfl (by omega) (r := nn) (fun q hq => by rw [Nat.zero_add]; exact ArrAt.cell (obAt kn.2.2.2.1) q (by omega)) (fun w2 hg ho => hK _ _ ⟨⟨touch_only ho, obIn hg⟩, trivial⟩)⟩),
      trivial⟩ ?_
  intro vs own v1 hB1 hs1 kn inj
  clear inj g5 g0 g1 g2 g3 hB
  have g5 : ArrAt v1 (w.heap.size + 1 + 1 + 1 + 1) .u8 42 16 (over (fun _ => 0) 0 16 (nn)) := obAt kn.1
  have g0 : ArrAt v1 w.heap.size .u8 22 32 (key) := obAt kn.2.1
  have g1 : ArrAt v1 (w.heap.size + 1) .u8 23 24 (nn) := obAt kn.2.2.1
  have g2 : ArrAt v1 (w.heap.size + 1 + 1) .u8 22 32 (fun _ => 0) := obAt kn.2.2.2.1
  have g3 : ArrAt v1 (w.heap.size + 1 + 1 + 1) .u8 24 12 (fun _ => 0) := obAt kn.2.2.2.2.1
  have hB := hB1
  clear kn hB1 hs1
  simp only [putAll, Act.put, List.setIfInBounds_toArray, List.set_cons_zero, List.set_cons_succ]
  have hz := g5.lt
  have gn := fun o (ho : o = Obj.cells (WA .u8 12 fun _ => 0) 24 (0, 0)) => (by rw [ho]; exact heap_alloc_new v1 _ : ArrAt (v1.alloc o) v1.heap.size .u8 24 12 (fun _ => 0))
  obtain ⟨b6, hb6⟩ : ∃ b6, b6 = v1.heap.size := ⟨_, rfl⟩
  have hz2 : (w.heap.size + 1 + 1 + 1 + 1) < b6 := by omega
  go_wp2_with fail
  replace hB := hB.alloc hB.size
  replace g0 := g0.alloc
  replace g1 := g1.alloc
  replace g2 := g2.alloc
  replace g3 := g3.alloc
  replace g5 := g5.alloc
  rw [← hb6] at gn ⊢
  refine wp_gen (fun v => ArrAt v b6 .u8 24 12 (fun _ => 0) ∧ ArrAt v (w.heap.size + 1 + 1 + 1 + 1) .u8 42 16 (over (fun _ => 0) 0 16 (nn)) ∧ ArrAt v w.heap.size .u8 22 32 (key) ∧ ArrAt v (w.heap.size + 1) .u8 23 24 (nn) ∧ ArrAt v (w.heap.size + 1 + 1) .u8 22 32 (fun _ => 0) ∧ ArrAt v (w.heap.size + 1 + 1 + 1) .u8 24 12 (fun _ => 0) ∧ Below w.heap.size w v) ⟨gn _ rfl, g5 _, g0 _, g1 _, g2 _, g3 _, hB _⟩ ?_
  clear gn g5 g0 g1 g2 g3 hB
  rintro v3 ⟨g6, g5, g0, g1, g2, g3, hB⟩
  refine wp_region3 (Below w.heap.size w) v3.heap.size
    [(b6, once (WA .u8 12 (fun _ => 0)) 24 2 (WA .u8 12 (over (fun _ => 0) 4 8 (fun j => nn (16 + j))))), ((w.heap.size + 1 + 1 + 1 + 1), fixd (WA .u8 16 (over (fun _ => 0) 0 16 (nn))) 42), (w.heap.size, fixd (WA .u8 32 (key)) 22), ((w.heap.size + 1), fixd (WA .u8 24 (nn)) 23), ((w.heap.size + 1 + 1), fixd (WA .u8 32 (fun _ => 0)) 22), ((w.heap.size + 1 + 1 + 1), fixd (WA .u8 12 (fun _ => 0)) 24)]
    [kv (.slice (some ⟨b6, 4, none⟩) 8 8), kv (.slice (some ⟨(w.heap.size + 1), 16, none⟩) 8 8), .val fun _ => True]
    [.none, .none, .base 0 1]
    [some 11, some 12, some 13]
    [(7, .pointer (some ⟨b6, 0, none⟩)), (3, .pointer (some ⟨(w.heap.size + 1), 0, none⟩))]
    [[], [], [.slot 0, .slot 1, .base 0 0, .base 3 0]]
    [.base 0 1, .base 1 0, .base 2 0, .base 3 0, .base 4 0, .base 5 0] [11, 12, 13]
    rfl (by kernel_rfl) ⟨rfl, rfl, trivial⟩ (Below.drew hB) (Nat.le_refl _) ⟨⟨g6.lt, obIn g6⟩, ⟨g5.lt, obIn g5⟩, ⟨g0.lt, obIn g0⟩, ⟨g1.lt, obIn g1⟩, ⟨g2.lt, obIn g2⟩, ⟨g3.lt, obIn g3⟩, trivial⟩ ⟨⟨(show (b6 : Nat) ≠ (w.heap.size + 1 + 1 + 1 + 1) from by omega), (show (b6 : Nat) ≠ w.heap.size from by omega), (show (b6 : Nat) ≠ (w.heap.size + 1) from by omega), (show (b6 : Nat) ≠ (w.heap.size + 1 + 1) from by omega), (show (b6 : Nat) ≠ (w.heap.size + 1 + 1 + 1) from by omega), trivial⟩, ⟨trivial, trivial, trivial, trivial, trivial⟩, ⟨trivial, trivial, trivial, trivial⟩, ⟨trivial, trivial, trivial⟩, ⟨trivial, trivial⟩, trivial, trivial⟩ (below_G hB.size ⟨by omega, by omega, by omega, by omega, by omega, by omega, trivial⟩)
    ⟨
      -- 0
      (fun Q aq ww own hS hBg fr kn => .inl ⟨trivial, fun K hK => wp_value (exec_slL (v := .pointer (some ⟨b6, 0, none⟩)) (u := .int .i64 4) rfl fr.1 rfl (sl12L4 b6 ww)) (hK _ _ ⟨Touch.refl _ _, rfl⟩)⟩),
      -- 1
      (fun Q aq ww own hS hBg fr kn => .inl ⟨trivial, fun K hK => wp_value (exec_slL (v := .pointer (some ⟨(w.heap.size + 1), 0, none⟩)) (u := .int .i64 16) rfl fr.2.1 rfl (sl24L16 (w.heap.size + 1) ww)) (hK _ _ ⟨Touch.refl _ _, rfl⟩)⟩),
      -- 2
      (fun Q aq ww own hS hBg fr kn => .inl ⟨trivial, fun K hK => act_copy rfl kn.1 kn.2.1 (obAt kn.2.2.1) (m := 8) rfl (by omega) (r := fun j => nn (16 + j)) (fun q hq => ArrAt.cell (obAt kn.2.2.2.1) (16 + q) (by omega)) (fun w2 hg ho => hK _ _ ⟨⟨touch_only ho, obIn hg⟩, trivial⟩)⟩),
      trivial⟩ ?_
  intro vs own v4 hB1 hs1 kn inj
  clear inj g6 g5 g0 g1 g2 g3 hB
  have g6 : ArrAt v4 b6 .u8 24 12 (over (fun _ => 0) 4 8 (fun j => nn (16 + j))) := obAt kn.1
  have g5 : ArrAt v4 (w.heap.size + 1 + 1 + 1 + 1) .u8 42 16 (over (fun _ => 0) 0 16 (nn)) := obAt kn.2.1
  have g0 : ArrAt v4 w.heap.size .u8 22 32 (key) := obAt kn.2.2.1
  have g1 : ArrAt v4 (w.heap.size + 1) .u8 23 24 (nn) := obAt kn.2.2.2.1
  have g2 : ArrAt v4 (w.heap.size + 1 + 1) .u8 22 32 (fun _ => 0) := obAt kn.2.2.2.2.1
  have g3 : ArrAt v4 (w.heap.size + 1 + 1 + 1) .u8 24 12 (fun _ => 0) := obAt kn.2.2.2.2.2.1
  have hB := hB1
  clear kn hB1 hs1
  simp only [putAll, Act.put, List.setIfInBounds_toArray, List.set_cons_zero, List.set_cons_succ]
  replace g5 := g5.congr (s' := nn) (fun j hj => by unfold over; rw [if_pos (by omega), Nat.sub_zero])
  go_wp2_with fail
  refine wp_gen (fun v => ArrAt v (w.heap.size + 1 + 1) .u8 22 32 (fun _ => 0) ∧ ArrAt v (w.heap.size + 1 + 1 + 1) .u8 24 12 (fun _ => 0) ∧ ArrAt v b6 .u8 24 12 (tailN fun j => nn (16 + j)) ∧ ArrAt v (w.heap.size + 1 + 1 + 1 + 1) .u8 42 16 (nn) ∧ ArrAt v w.heap.size .u8 22 32 (key) ∧ ArrAt v (w.heap.size + 1) .u8 23 24 (nn) ∧ Below w.heap.size w v) ⟨g2, g3, g6, g5, g0, g1, hB⟩ ?_
  clear g2 g3 g6 g5 g0 g1 hB
  rintro v5 ⟨g2, g3, g6, g5, g0, g1, hB⟩
  refine wp_region3 (Below w.heap.size w) v5.heap.size
    [((w.heap.size + 1 + 1), once (WA .u8 32 (fun _ => 0)) 22 4 (WA .u8 32 (der key nn))), ((w.heap.size + 1 + 1 + 1), once (WA .u8 12 (fun _ => 0)) 24 5 (WA .u8 12 (tailN fun j => nn (16 + j)))), (b6, fixd (WA .u8 12 (tailN fun j => nn (16 + j))) 24), ((w.heap.size + 1 + 1 + 1 + 1), fixd (WA .u8 16 (nn)) 42), (w.heap.size, fixd (WA .u8 32 (key)) 22), ((w.heap.size + 1), fixd (WA .u8 24 (nn)) 23)]
    [kv (.agg (WA .u8 32 key)), kv (.agg (WA .u8 16 nn)), kv (.agg (WA .u8 32 (der key nn))), kv (.agg (WA .u8 12 (tailN fun j => nn (16 + j)))), .val fun _ => True, .val fun _ => True]
    [.none, .none, .none, .none, .base 0 1, .base 1 1]
    [some 14, some 15, some 16, some 17, none, none]
    [(2, .pointer (some ⟨w.heap.size, 0, none⟩)), (6, .pointer (some ⟨(w.heap.size + 1 + 1 + 1 + 1), 0, none⟩)), (7, .pointer (some ⟨b6, 0, none⟩)), (4, .pointer (some ⟨(w.heap.size + 1 + 1), 0, none⟩)), (5, .pointer (some ⟨(w.heap.size + 1 + 1 + 1), 0, none⟩))]
    [[.base 4 0], [.base 3 0], [.slot 0, .slot 1], [.base 2 0], [.slot 2, .base 0 0], [.slot 3, .base 1 0]]
    [.base 0 1, .base 1 1, .base 2 0, .base 3 0, .base 4 0, .base 5 0] [14, 15, 16, 17]
    rfl (by kernel_rfl) ⟨rfl, rfl, rfl, rfl, rfl, trivial⟩ (Below.drew hB) (Nat.le_refl _) ⟨⟨g2.lt, obIn g2⟩, ⟨g3.lt, obIn g3⟩, ⟨g6.lt, obIn g6⟩, ⟨g5.lt, obIn g5⟩, ⟨g0.lt, obIn g0⟩, ⟨g1.lt, obIn g1⟩, trivial⟩ ⟨⟨(show ((w.heap.size + 1 + 1) : Nat) ≠ (w.heap.size + 1 + 1 + 1) from by omega), (show ((w.heap.size + 1 + 1) : Nat) ≠ b6 from by omega), (show ((w.heap.size + 1 + 1) : Nat) ≠ (w.heap.size + 1 + 1 + 1 + 1) from by omega), (show ((w.heap.size + 1 + 1) : Nat) ≠ w.heap.size from by omega), (show ((w.heap.size + 1 + 1) : Nat) ≠ (w.heap.size + 1) from by omega), trivial⟩, ⟨(show ((w.heap.size + 1 + 1 + 1) : Nat) ≠ b6 from by omega), (show ((w.heap.size + 1 + 1 + 1) : Nat) ≠ (w.heap.size + 1 + 1 + 1 + 1) from by omega), (show ((w.heap.size + 1 + 1 + 1) : Nat) ≠ w.heap.size from by omega), (show ((w.heap.size + 1 + 1 + 1) : Nat) ≠ (w.heap.size + 1) from by omega), trivial⟩, ⟨trivial, trivial, trivial, trivial⟩, ⟨trivial, trivial, trivial⟩, ⟨trivial, trivial⟩, trivial, trivial⟩ (below_G hB.size ⟨by omega, by omega, by omega, by omega, by omega, by omega, trivial⟩)
    ⟨
      -- 0
      (fun Q aq ww own hS hBg fr kn => .inl ⟨trivial, fun K hK => wp_value (look_arr rfl isArr32 (obAt kn.1) fr.1) (hK _ _ ⟨Touch.refl _ _, rfl⟩)⟩),
      -- 1
      (fun Q aq ww own hS hBg fr kn => .inl ⟨trivial, fun K hK => wp_value (look_arr rfl isArr16 (obAt kn.1) fr.2.1) (hK _ _ ⟨Touch.refl _ _, rfl⟩)⟩),
      -- 2
      (fun Q aq ww own hS hBg fr kn => .inl ⟨trivial, fun K hK => stepc enterRDerive rfl (args2 kn.1 kn.2.1) (rDerive_run key nn ww HK.out HI.out) (fun w' hb => hK _ _ ⟨touch_below hb, rfl⟩)⟩),
      -- 3
      (fun Q aq ww own hS hBg fr kn => .inl ⟨trivial, fun K hK => wp_value (look_arr rfl isArr12 (obAt kn.1) fr.2.2.1) (hK _ _ ⟨Touch.refl _ _, rfl⟩)⟩),
      -- 4
      (fun Q aq ww own hS hBg fr kn => .inl ⟨trivial, fun K hK => act_arr rfl isArr32 fr.2.2.2.1 kn.1 (obAt kn.2.1) (fun w2 hg ho => hK _ _ ⟨⟨touch_only ho, obIn hg⟩, trivial⟩)⟩),
      -- 5
      (fun Q aq ww own hS hBg fr kn => .inl ⟨trivial, fun K hK => act_arr rfl isArr12 fr.2.2.2.2.1 kn.1 (obAt kn.2.1) (fun w2 hg ho => hK _ _ ⟨⟨touch_only ho, obIn hg⟩, trivial⟩)⟩),
      trivial⟩ ?_
  intro vs own v6 hB1 hs1 kn inj
  clear inj g2 g3 g6 g5 g0 g1 hB
  have g2 : ArrAt v6 (w.heap.size + 1 + 1) .u8 22 32 (der key nn) := obAt kn.1
  have g3 : ArrAt v6 (w.heap.size + 1 + 1 + 1) .u8 24 12 (tailN fun j => nn (16 + j)) := obAt kn.2.1
  have g6 : ArrAt v6 b6 .u8 24 12 (tailN fun j => nn (16 + j)) := obAt kn.2.2.1
  have g5 : ArrAt v6 (w.heap.size + 1 + 1 + 1 + 1) .u8 42 16 (nn) := obAt kn.2.2.2.1
  have g0 : ArrAt v6 w.heap.size .u8 22 32 (key) := obAt kn.2.2.2.2.1
  have g1 : ArrAt v6 (w.heap.size + 1) .u8 23 24 (nn) := obAt kn.2.2.2.2.2.1
  have hB := hB1
  clear kn hB1 hs1
  simp only [putAll, Act.put, List.setIfInBounds_toArray, List.set_cons_zero, List.set_cons_succ]
  go_wp2_with fail
  exact bodyPost_ret (results_cells2 Try.results26 _ _ (w.heap.size + 1 + 1) (w.heap.size + 1 + 1 + 1) (by rfl) (by rfl) (WA .u8 32 (der key nn)) (WA .u8 12 (tailN fun j => nn (16 + j))) g2 g3 (by rw [WA_size]; kernel_rfl) (by rw [WA_size]; kernel_rfl) Try.underlying22 rfl Try.underlying24 rfl) rfl ⟨rfl, hB⟩
end Go.Proofs.Ytfkgfojofdachaa
/-
  Own text. What SealWide and OpenWide answer, of package aead and of the document.
-/
namespace Go.Proofs.Ytfkgfojofdachaa
open Go.RowKit Go.Proofs
set_option maxRecDepth 100000
theorem isArr24 : IsArr 23 24 := ⟨_, _, Try.underlying23, by kernel_rfl⟩
set_option maxHeartbeats 4000000 in
theorem SealWide_run (key nn : Nat → Int) (text beside : ByteArray) (w : World) (hk : Byts 32 key) (hn : Byts 24 nn) (ht : text.size ≤ 140737488355328) (hbs : beside.size ≤ 281474976710656) :
    Calls Try.prog 9 #[.agg (WA .u8 32 key), .agg (WA .u8 24 nn), .string text, .string beside] w fun e w' => e = .returned (.string (boxT (der key nn) (tailN fun j => nn (16 + j)) text beside)) ∧ Below w.heap.size w w' := by
  have g0 : ArrAt ((w.alloc (.cells (WA .u8 32 key) 22)).alloc (.cells (WA .u8 24 nn) 23)) w.heap.size .u8 22 32 key := heap_alloc2_old w _ _
  have g1 : ArrAt ((w.alloc (.cells (WA .u8 32 key) 22)).alloc (.cells (WA .u8 24 nn) 23)) (w.heap.size + 1) .u8 23 24 nn := heap_alloc2_new w _ _
  have hB : Below w.heap.size w ((w.alloc (.cells (WA .u8 32 key) 22)).alloc (.cells (WA .u8 24 nn) 23)) := ((Below.refl _ w).alloc (by simp) _).alloc (by simp) _
  have hR := fun w => Seal_run (der key nn) (tailN fun j => nn (16 + j)) text beside w (der_b key nn) (tailN_b (fun i hi => hn (16 + i) (by omega))) ht hbs
  have hN := fun w => narrow_run key nn w hk hn
  generalize der key nn = kk at *
  generalize (tailN fun j => nn (16 + j)) = tt at *
  generalize boxT kk tt text beside = x at *
  clear ht
  go_enter Try.func9, Try.ntmps9
  go_wp2_with (first | (refine ld_arr isArr32 g0 (by rfl) ?_) | (refine ld_arr isArr24 g1 (by rfl) ?_))
  refine (hN _).mono ?_
  rintro e v1 ⟨rfl, hb⟩
  replace hB := hB.trans (hb.mono hB.size)
  clear hb g0 g1 hN
  have gA := fun o o' (ho : o = Obj.cells (WA .u8 32 fun _ => 0) 22 (0, 0)) => (by rw [ho]; exact heap_alloc2_old v1 _ _ : ArrAt ((v1.alloc o).alloc o') v1.heap.size .u8 22 32 (fun _ => 0))
  have gB := fun o o' (ho : o' = Obj.cells (WA .u8 12 fun _ => 0) 24 (0, 0)) => (by rw [ho]; exact heap_alloc2_new v1 _ _ : ArrAt ((v1.alloc o).alloc o') (v1.heap.size + 1) .u8 24 12 (fun _ => 0))
  have HBS := Hid.mk hB.size
  have HBA : Hid (∀ A B, Below w.heap.size w ((v1.alloc A).alloc B)) := Hid.mk (fun A B => (hB.alloc hB.size A).alloc (by have := hB.size; simp; omega) B)
  clear hB
  go_wp2_with (refine st_arr isArr32 (gA _ _ rfl) (by rfl) (by rfl) ?_; intro v2 g2 o2; refine Hid.out ?_)
  replace gB := (gB _ _ rfl).only o2 (by omega)
  have hB := (HBA.out _ _).trans (o2.below HBS.out)
  clear gA o2 HBA
  refine Hid.mk ?_
  go_wp2_with (refine st_arr isArr12 gB (by rfl) (by rfl) ?_; intro v3 g3 o3; refine Hid.out ?_)
  replace g2 := g2.only o3 (by omega)
  replace hB := hB.trans (o3.below (by have := HBS.out; omega))
  clear o3 gB HBS
  refine Hid.mk ?_
  go_wp2_with (first | (refine ld_arr isArr32 g2 (by rfl) ?_) | (refine ld_arr isArr12 g3 (by rfl) ?_))
  refine (hR _).mono ?_
  rintro e v4 ⟨rfl, hb⟩
  replace hB := hB.trans (hb.mono hB.size)
  clear hb g2 g3 hR
  go_wp2_with fail
  go_ret
  exact ⟨rfl, hB⟩
set_option maxHeartbeats 4000000 in
theorem OpenWide_run (key nn : Nat → Int) (box beside : ByteArray) (w : World) (hk : Byts 32 key) (hn : Byts 24 nn) (ht : box.size ≤ 140737488355328) (hbs : beside.size ≤ 281474976710656) :
    Calls Try.prog 13 #[.agg (WA .u8 32 key), .agg (WA .u8 24 nn), .string box, .string beside] w fun e w' => e = .returned (.tuple #[.string (openT (der key nn) (tailN fun j => nn (16 + j)) box beside).1, .int .i64 (openT (der key nn) (tailN fun j => nn (16 + j)) box beside).2]) ∧ Below w.heap.size w w' := by
  have g0 : ArrAt ((w.alloc (.cells (WA .u8 32 key) 22)).alloc (.cells (WA .u8 24 nn) 23)) w.heap.size .u8 22 32 key := heap_alloc2_old w _ _
  have g1 : ArrAt ((w.alloc (.cells (WA .u8 32 key) 22)).alloc (.cells (WA .u8 24 nn) 23)) (w.heap.size + 1) .u8 23 24 nn := heap_alloc2_new w _ _
  have hB : Below w.heap.size w ((w.alloc (.cells (WA .u8 32 key) 22)).alloc (.cells (WA .u8 24 nn) 23)) := ((Below.refl _ w).alloc (by simp) _).alloc (by simp) _
  have hR := fun w => Open_run (der key nn) (tailN fun j => nn (16 + j)) box beside w (der_b key nn) (tailN_b (fun i hi => hn (16 + i) (by omega))) ht hbs
  have hN := fun w => narrow_run key nn w hk hn
  generalize der key nn = kk at *
  generalize (tailN fun j => nn (16 + j)) = tt at *
  generalize openT kk tt box beside = x at *
  clear ht
  go_enter Try.func13, Try.ntmps13
  go_wp2_with (first | (refine ld_arr isArr32 g0 (by rfl) ?_) | (refine ld_arr isArr24 g1 (by rfl) ?_))
  refine (hN _).mono ?_
  rintro e v1 ⟨rfl, hb⟩
  replace hB := hB.trans (hb.mono hB.size)
  clear hb g0 g1 hN
  have gA := fun o o' (ho : o = Obj.cells (WA .u8 32 fun _ => 0) 22 (0, 0)) => (by rw [ho]; exact heap_alloc2_old v1 _ _ : ArrAt ((v1.alloc o).alloc o') v1.heap.size .u8 22 32 (fun _ => 0))
  have gB := fun o o' (ho : o' = Obj.cells (WA .u8 12 fun _ => 0) 24 (0, 0)) => (by rw [ho]; exact heap_alloc2_new v1 _ _ : ArrAt ((v1.alloc o).alloc o') (v1.heap.size + 1) .u8 24 12 (fun _ => 0))
  have HBS := Hid.mk hB.size
  have HBA : Hid (∀ A B, Below w.heap.size w ((v1.alloc A).alloc B)) := Hid.mk (fun A B => (hB.alloc hB.size A).alloc (by have := hB.size; simp; omega) B)
  clear hB
  go_wp2_with (refine st_arr isArr32 (gA _ _ rfl) (by rfl) (by rfl) ?_; intro v2 g2 o2; refine Hid.out ?_)
  replace gB := (gB _ _ rfl).only o2 (by omega)
  have hB := (HBA.out _ _).trans (o2.below HBS.out)
  clear gA o2 HBA
  refine Hid.mk ?_
  go_wp2_with (refine st_arr isArr12 gB (by rfl) (by rfl) ?_; intro v3 g3 o3; refine Hid.out ?_)
  replace g2 := g2.only o3 (by omega)
  replace hB := hB.trans (o3.below (by have := HBS.out; omega))
  clear o3 gB HBS
  refine Hid.mk ?_
  go_wp2_with (first | (refine ld_arr isArr32 g2 (by rfl) ?_) | (refine ld_arr isArr12 g3 (by rfl) ?_))
  refine (hR _).mono ?_
  rintro e v4 ⟨rfl, hb⟩
  replace hB := hB.trans (hb.mono hB.size)
  clear hb g2 g3 hR
  go_wp2_with fail
  exact bodyPost_ret (v := .tuple #[.string x.1, .int .i64 x.2]) (results_two Try.results13 (by rfl) (by rfl)) rfl ⟨rfl, hB⟩
set_option maxHeartbeats 4000000 in
theorem rSealWide_run (key nn : Nat → Int) (text beside : ByteArray) (w : World) (hk : Byts 32 key) (hn : Byts 24 nn) (ht : text.size ≤ 140737488355328) (hbs : beside.size ≤ 281474976710656) :
    Calls Try.prog 11 #[.agg (WA .u8 32 key), .agg (WA .u8 24 nn), .string text, .string beside] w fun e w' => e = .returned (.string (boxT (der key nn) (tailN fun j => nn (16 + j)) text beside)) ∧ Below w.heap.size w w' := by
  have g0 : ArrAt ((w.alloc (.cells (WA .u8 32 key) 22)).alloc (.cells (WA .u8 24 nn) 23)) w.heap.size .u8 22 32 key := heap_alloc2_old w _ _
  have g1 : ArrAt ((w.alloc (.cells (WA .u8 32 key) 22)).alloc (.cells (WA .u8 24 nn) 23)) (w.heap.size + 1) .u8 23 24 nn := heap_alloc2_new w _ _
  have hB : Below w.heap.size w ((w.alloc (.cells (WA .u8 32 key) 22)).alloc (.cells (WA .u8 24 nn) 23)) := ((Below.refl _ w).alloc (by simp) _).alloc (by simp) _
  have hR := fun w => rSeal_run (der key nn) (tailN fun j => nn (16 + j)) text beside w (der_b key nn) (tailN_b (fun i hi => hn (16 + i) (by omega))) ht hbs
  have hN := fun w => rnarrow_run key nn w hk hn
  generalize der key nn = kk at *
  generalize (tailN fun j => nn (16 + j)) = tt at *
  generalize boxT kk tt text beside = x at *
  clear ht
  go_enter Try.func11, Try.ntmps11
  go_wp2_with (first | (refine ld_arr isArr32 g0 (by rfl) ?_) | (refine ld_arr isArr24 g1 (by rfl) ?_))
  refine (hN _).mono ?_
  rintro e v1 ⟨rfl, hb⟩
  replace hB := hB.trans (hb.mono hB.size)
  clear hb g0 g1 hN
  have gA := fun o o' (ho : o = Obj.cells (WA .u8 32 fun _ => 0) 22 (0, 0)) => (by rw [ho]; exact heap_alloc2_old v1 _ _ : ArrAt ((v1.alloc o).alloc o') v1.heap.size .u8 22 32 (fun _ => 0))
  have gB := fun o o' (ho : o' = Obj.cells (WA .u8 12 fun _ => 0) 24 (0, 0)) => (by rw [ho]; exact heap_alloc2_new v1 _ _ : ArrAt ((v1.alloc o).alloc o') (v1.heap.size + 1) .u8 24 12 (fun _ => 0))
  have HBS := Hid.mk hB.size
  have HBA : Hid (∀ A B, Below w.heap.size w ((v1.alloc A).alloc B)) := Hid.mk (fun A B => (hB.alloc hB.size A).alloc (by have := hB.size; simp; omega) B)
  clear hB
  go_wp2_with (refine st_arr isArr32 (gA _ _ rfl) (by rfl) (by rfl) ?_; intro v2 g2 o2; refine Hid.out ?_)
  replace gB := (gB _ _ rfl).only o2 (by omega)
  have hB := (HBA.out _ _).trans (o2.below HBS.out)
  clear gA o2 HBA
  refine Hid.mk ?_
  go_wp2_with (refine st_arr isArr12 gB (by rfl) (by rfl) ?_; intro v3 g3 o3; refine Hid.out ?_)
  replace g2 := g2.only o3 (by omega)
  replace hB := hB.trans (o3.below (by have := HBS.out; omega))
  clear o3 gB HBS
  refine Hid.mk ?_
  go_wp2_with (first | (refine ld_arr isArr32 g2 (by rfl) ?_) | (refine ld_arr isArr12 g3 (by rfl) ?_))
  refine (hR _).mono ?_
  rintro e v4 ⟨rfl, hb⟩
  replace hB := hB.trans (hb.mono hB.size)
  clear hb g2 g3 hR
  go_wp2_with fail
  go_ret
  exact ⟨rfl, hB⟩
set_option maxHeartbeats 4000000 in
theorem rOpenWide_run (key nn : Nat → Int) (box beside : ByteArray) (w : World) (hk : Byts 32 key) (hn : Byts 24 nn) (ht : box.size ≤ 140737488355328) (hbs : beside.size ≤ 281474976710656) :
    Calls Try.prog 16 #[.agg (WA .u8 32 key), .agg (WA .u8 24 nn), .string box, .string beside] w fun e w' => e = .returned (.tuple #[.string (openT (der key nn) (tailN fun j => nn (16 + j)) box beside).1, .int .i64 (openT (der key nn) (tailN fun j => nn (16 + j)) box beside).2]) ∧ Below w.heap.size w w' := by
  have g0 : ArrAt ((w.alloc (.cells (WA .u8 32 key) 22)).alloc (.cells (WA .u8 24 nn) 23)) w.heap.size .u8 22 32 key := heap_alloc2_old w _ _
  have g1 : ArrAt ((w.alloc (.cells (WA .u8 32 key) 22)).alloc (.cells (WA .u8 24 nn) 23)) (w.heap.size + 1) .u8 23 24 nn := heap_alloc2_new w _ _
  have hB : Below w.heap.size w ((w.alloc (.cells (WA .u8 32 key) 22)).alloc (.cells (WA .u8 24 nn) 23)) := ((Below.refl _ w).alloc (by simp) _).alloc (by simp) _
  have hR := fun w => rOpen_run (der key nn) (tailN fun j => nn (16 + j)) box beside w (der_b key nn) (tailN_b (fun i hi => hn (16 + i) (by omega))) ht hbs
  have hN := fun w => rnarrow_run key nn w hk hn
  generalize der key nn = kk at *
  generalize (tailN fun j => nn (16 + j)) = tt at *
  generalize openT kk tt box beside = x at *
  clear ht
  go_enter Try.func16, Try.ntmps16
  go_wp2_with (first | (refine ld_arr isArr32 g0 (by rfl) ?_) | (refine ld_arr isArr24 g1 (by rfl) ?_))
  refine (hN _).mono ?_
  rintro e v1 ⟨rfl, hb⟩
  replace hB := hB.trans (hb.mono hB.size)
  clear hb g0 g1 hN
  have gA := fun o o' (ho : o = Obj.cells (WA .u8 32 fun _ => 0) 22 (0, 0)) => (by rw [ho]; exact heap_alloc2_old v1 _ _ : ArrAt ((v1.alloc o).alloc o') v1.heap.size .u8 22 32 (fun _ => 0))
  have gB := fun o o' (ho : o' = Obj.cells (WA .u8 12 fun _ => 0) 24 (0, 0)) => (by rw [ho]; exact heap_alloc2_new v1 _ _ : ArrAt ((v1.alloc o).alloc o') (v1.heap.size + 1) .u8 24 12 (fun _ => 0))
  have HBS := Hid.mk hB.size
  have HBA : Hid (∀ A B, Below w.heap.size w ((v1.alloc A).alloc B)) := Hid.mk (fun A B => (hB.alloc hB.size A).alloc (by have := hB.size; simp; omega) B)
  clear hB
  go_wp2_with (refine st_arr isArr32 (gA _ _ rfl) (by rfl) (by rfl) ?_; intro v2 g2 o2; refine Hid.out ?_)
  replace gB := (gB _ _ rfl).only o2 (by omega)
  have hB := (HBA.out _ _).trans (o2.below HBS.out)
  clear gA o2 HBA
  refine Hid.mk ?_
  go_wp2_with (refine st_arr isArr12 gB (by rfl) (by rfl) ?_; intro v3 g3 o3; refine Hid.out ?_)
  replace g2 := g2.only o3 (by omega)
  replace hB := hB.trans (o3.below (by have := HBS.out; omega))
  clear o3 gB HBS
  refine Hid.mk ?_
  go_wp2_with (first | (refine ld_arr isArr32 g2 (by rfl) ?_) | (refine ld_arr isArr12 g3 (by rfl) ?_))
  refine (hR _).mono ?_
  rintro e v4 ⟨rfl, hb⟩
  replace hB := hB.trans (hb.mono hB.size)
  clear hb g2 g3 hR
  go_wp2_with fail
  exact bodyPost_ret (v := .tuple #[.string x.1, .int .i64 x.2]) (results_two Try.results16 (by rfl) (by rfl)) rfl ⟨rfl, hB⟩
end Go.Proofs.Ytfkgfojofdachaa
/-
  Own text. The document's Nonce.
-/
namespace Go.Proofs.Ytfkgfojofdachaa
open Go.RowKit Go.Proofs
set_option maxRecDepth 100000
theorem cells_txt (s : ByteArray) : (s.data.toList.map fun x => Value.int .u8 (x.toNat : Int)) = nums .u8 s.size (txt s) := by
  have hl : s.data.toList.length = s.size := by simp
  refine List.ext_getElem? (fun i => ?_)
  by_cases h : i < s.size
  · have hi : i < s.data.toList.length := by omega
    rw [nums_at .u8 _ _ h, List.getElem?_map, List.getElem?_eq_getElem hi, ← txt_get h]
    rfl
  · rw [List.getElem?_eq_none (by rw [List.length_map]; omega), List.getElem?_eq_none (by rw [nums_len]; omega)]
theorem act_copyS {o : Oper} {a : Act} {w : World} {K : Act → World → Prop} {Q : Exit → Act → World → Prop} {d s' : Operand} (ho : o.op = .call { callee := .builtin .copy, args := #[d, s'], argTypes := #[25, 9] })
    {g off dL dC n m : Nat} {t : TypeId} {s r : Nat → Int} (hd : a.eval d = .slice (some ⟨g, off, none⟩) dL dC) (hs : a.eval s' = .string (mkS m r)) (hg : ArrAt w g .u8 t n s) (hr : ∀ j, j < m → 0 ≤ r j ∧ r j < 256) (hm : m ≤ dL) (hfit : off + m ≤ n)
    (h : ∀ w', ArrAt w' g .u8 t n (over s off m r) → Only g w w' → K (a.put o.dst (goInt m)) w') : o.wp Try.prog a w K Q := by
  have hz : ∀ w, (Go.sizeOf 5).run Try.prog w = .ok 1 w := fun w => by kernel_rfl
  have h0 := run_copy_string (P := Try.prog) w 25 9 o.type 5 g off dL dC (mkS m r) Try.underlying25 hz (by rw [mkS_size]; exact hm) (fun j hj => by rw [mkS_size] at hj; rw [hg.cell _ (by omega)]; rfl) (fun j _ => hg.free _)
  rw [cells_txt, mkS_size] at h0
  obtain ⟨C', h1, h2, h3, h4, h5⟩ := setCells_heap (nums .u8 m (txt (mkS m r))) off w _ hg (by rw [nums_len, WA_size]; exact hfit)
  rw [nums_len] at h3 h4
  rw [WA_size] at h2
  have e : C' = WA .u8 n (over s off m r) := WA_ext h2 (fun i hi => by
    unfold over
    by_cases h : off ≤ i ∧ i < off + m
    · rw [if_pos h]
      have := h3 (i - off) (by omega)
      rw [show off + (i - off) = i by omega] at this
      rw [this, nums_at .u8 m _ (by omega), txt_mkS (hr _ (by omega)) (by omega)]
    · rw [if_neg h, h4 i (by omega), WA_get .u8 n s i hi])
  unfold Oper.wp
  simp [execOp, ho, resolve, invoke, builtin, hd, hs, h0, Result.andThen]
  exact h _ (by unfold ArrAt; rw [h1, e]) h5
set_option maxHeartbeats 4000000 in
theorem rNonce_run (n : Int) (w : World) (hn : 0 ≤ n ∧ n < 18446744073709551616) :
    Calls Try.prog 20 #[.int .u64 n] w fun e w' => e = .returned (.agg (WA .u8 12 (tailN (digN n)))) ∧ Below w.heap.size w w' := by
  have g0 : ArrAt ((w.alloc (.cells (WA .u8 12 fun _ => 0) 24)).alloc (.cells (WA .u8 12 fun _ => 0) 24)) w.heap.size .u8 24 12 (fun _ => 0) := heap_alloc2_old w _ _
  have g1 : ArrAt ((w.alloc (.cells (WA .u8 12 fun _ => 0) 24)).alloc (.cells (WA .u8 12 fun _ => 0) 24)) (w.heap.size + 1) .u8 24 12 (fun _ => 0) := heap_alloc2_new w _ _
  have hB : Below w.heap.size w ((w.alloc (.cells (WA .u8 12 fun _ => 0) 24)).alloc (.cells (WA .u8 12 fun _ => 0) 24)) := ((Below.refl _ w).alloc (by simp) _).alloc (by simp) _
  have HN := Hid.mk hn
  go_enter Try.func20, Try.ntmps20
  go_wp2_with fail
  refine wp_gen (fun v => ArrAt v (w.heap.size + 1) .u8 24 12 (fun _ => 0) ∧ ArrAt v w.heap.size .u8 24 12 (fun _ => 0) ∧ Below w.heap.size w v) ⟨g1, g0, hB⟩ ?_
  clear g1 g0 hB
  rintro v0 ⟨g1, g0, hB⟩
  refine wp_region3 (Below w.heap.size w) v0.heap.size
    [((w.heap.size + 1), once (WA .u8 12 (fun _ => 0)) 24 3 (WA .u8 12 (over (fun _ => 0) 4 8 (digN n)))), (w.heap.size, fixd (WA .u8 12 (fun _ => 0)) 24)]
    [kv (.slice (some ⟨(w.heap.size + 1), 4, none⟩) 8 8), kv (.int .u64 n), kv (.string (mkS 8 (digN n))), .val fun _ => True]
    [.none, .none, .none, .base 0 1]
    [some 4, some 5, some 6, some 7]
    [(3, .pointer (some ⟨(w.heap.size + 1), 0, none⟩)), (0, .int .u64 n)]
    [[], [], [.slot 1], [.slot 0, .slot 2, .base 0 0]]
    [.base 0 1, .base 1 0] [4, 5, 6, 7]
    rfl (by kernel_rfl) ⟨rfl, rfl, trivial⟩ (Below.drew hB) (Nat.le_refl _) ⟨⟨g1.lt, obIn g1⟩, ⟨g0.lt, obIn g0⟩, trivial⟩ ⟨⟨(show ((w.heap.size + 1) : Nat) ≠ w.heap.size from by omega), trivial⟩, trivial, trivial⟩ (below_G hB.size ⟨by omega, by omega, trivial⟩)
    ⟨
      -- 0
      (fun Q aq ww own hS hBg fr kn => .inl ⟨trivial, fun K hK => wp_value (exec_slL (v := .pointer (some ⟨(w.heap.size + 1), 0, none⟩)) (u := .int .i64 4) rfl fr.1 rfl (sl12L4 (w.heap.size + 1) ww)) (hK _ _ ⟨Touch.refl _ _, rfl⟩)⟩),
      -- 1
      (fun Q aq ww own hS hBg fr kn => .inl ⟨trivial, fun K hK => wp_value (exec_move rfl fr.2.1) (hK _ _ ⟨Touch.refl _ _, rfl⟩)⟩),
      -- 2
      (fun Q aq ww own hS hBg fr kn => .inl ⟨trivial, fun K hK => stepc enterEight rfl (args1 kn.1) (reight_run n ww HN.out) (fun w' hb => hK _ _ ⟨touch_below hb, rfl⟩)⟩),
      -- 3
      (fun Q aq ww own hS hBg fr kn => .inl ⟨trivial, fun K hK => act_copyS rfl kn.1 kn.2.1 (obAt kn.2.2.1) (fun j _ => digN_b n j) (by omega) (by omega) (fun w2 hg ho => hK _ _ ⟨⟨touch_only ho, obIn hg⟩, trivial⟩)⟩),
      trivial⟩ ?_
  intro vs own v1 hB1 hs1 kn inj
  clear inj g1 g0 hB
  have g1 : ArrAt v1 (w.heap.size + 1) .u8 24 12 (over (fun _ => 0) 4 8 (digN n)) := obAt kn.1
  have g0 : ArrAt v1 w.heap.size .u8 24 12 (fun _ => 0) := obAt kn.2.1
  have hB := hB1
  clear kn hB1 hs1
  simp only [putAll, Act.put, List.setIfInBounds_toArray, List.set_cons_zero, List.set_cons_succ]
  go_wp2_with (first | (refine ld_arr isArr12 g1 (by rfl) ?_) | (refine st_arr isArr12 g0 (by rfl) (by rfl) ?_; intro v4 g4 o4; refine Hid.out ?_))
  refine Hid.mk ?_
  go_wp2_with fail
  exact bodyPost_ret (res_arr Try.results20 isArr12 g4 (by rfl)) rfl ⟨rfl, hB.trans (o4.below (Nat.le_refl _))⟩
end Go.Proofs.Ytfkgfojofdachaa
/-
  Own text. The statements' awake; pick.
-/
namespace Go.Proofs.Ytfkgfojofdachaa
open Go.RowKit Go.Proofs
set_option maxRecDepth 100000
def awKey (i : Nat) : Int := [128, 129, 130, 131, 132, 133, 134, 135, 136, 137, 138, 139, 140, 141, 142, 143, 144, 145, 146, 147, 148, 149, 150, 151, 152, 153, 154, 155, 156, 157, 158, 159].getD i 0
def awNon (i : Nat) : Int := [7, 0, 0, 0, 64, 65, 66, 67, 68, 69, 70, 71].getD i 0
def awText : ByteArray := ⟨#[76, 97, 100, 105, 101, 115, 32, 97, 110, 100, 32, 71, 101, 110, 116, 108, 101, 109, 101, 110, 32, 111, 102, 32, 116, 104, 101, 32, 99, 108, 97, 115, 115, 32, 111, 102, 32, 39, 57, 57, 58, 32, 73, 102, 32, 73, 32, 99, 111, 117, 108, 100, 32, 111, 102, 102, 101, 114, 32, 121, 111, 117, 32, 111, 110, 108, 121, 32, 111, 110, 101, 32, 116, 105, 112, 32, 102, 111, 114, 32, 116, 104, 101, 32, 102, 117, 116, 117, 114, 101, 44, 32, 115, 117, 110, 115, 99, 114, 101, 101, 110, 32, 119, 111, 117, 108, 100, 32, 98, 101, 32, 105, 116, 46]⟩
def awBes : ByteArray := ⟨#[80, 81, 82, 83, 192, 193, 194, 195, 196, 197, 198, 199]⟩
def awOnce (i : Nat) : Int := [123, 172, 43, 37, 45, 180, 71, 175, 9, 182, 122, 85, 164, 233, 85, 132, 10, 225, 214, 115, 16, 117, 217, 235, 42, 147, 117, 120, 62, 213, 83, 255].getD i 0
def awKs (i : Nat) : Int := [159, 123, 233, 93, 1, 253, 64, 186, 21, 226, 143, 251, 54, 129, 10, 174, 193, 192, 136, 63, 9, 1, 110, 222, 221, 138, 208, 135, 85, 130, 3, 165, 78, 158, 203, 56, 172, 142, 94, 43, 184, 218, 178, 15, 250, 219, 82, 232, 117, 4, 178, 110, 190, 105, 109, 79, 96, 164, 133, 207, 17, 184, 27, 89, 252, 177, 196, 95, 66, 25, 238, 172, 236, 106, 222, 195, 78, 102, 105, 120, 142, 219, 65, 196, 156, 163, 1, 225, 39, 224, 172, 171, 59, 68, 185, 207, 92, 134, 187, 149, 224, 107, 13, 242, 144, 26, 182, 69, 228, 171, 230, 34, 21, 56, 12, 3, 206, 53, 108, 215, 166, 118, 99, 251, 221, 239, 255, 100].getD i 0
def awUnder : ByteArray := ⟨#[211, 26, 141, 52, 100, 142, 96, 219, 123, 134, 175, 188, 83, 239, 126, 194, 164, 173, 237, 81, 41, 110, 8, 254, 169, 226, 181, 167, 54, 238, 98, 214, 61, 190, 164, 94, 140, 169, 103, 18, 130, 250, 251, 105, 218, 146, 114, 139, 26, 113, 222, 10, 158, 6, 11, 41, 5, 214, 165, 182, 126, 205, 59, 54, 146, 221, 189, 127, 45, 119, 139, 140, 152, 3, 174, 227, 40, 9, 27, 88, 250, 179, 36, 228, 250, 214, 117, 148, 85, 133, 128, 139, 72, 49, 215, 188, 63, 244, 222, 240, 142, 75, 122, 157, 229, 118, 210, 101, 134, 206, 198, 75, 97, 22]⟩
def awMarked : ByteArray := ⟨#[80, 81, 82, 83, 192, 193, 194, 195, 196, 197, 198, 199, 0, 0, 0, 0, 211, 26, 141, 52, 100, 142, 96, 219, 123, 134, 175, 188, 83, 239, 126, 194, 164, 173, 237, 81, 41, 110, 8, 254, 169, 226, 181, 167, 54, 238, 98, 214, 61, 190, 164, 94, 140, 169, 103, 18, 130, 250, 251, 105, 218, 146, 114, 139, 26, 113, 222, 10, 158, 6, 11, 41, 5, 214, 165, 182, 126, 205, 59, 54, 146, 221, 189, 127, 45, 119, 139, 140, 152, 3, 174, 227, 40, 9, 27, 88, 250, 179, 36, 228, 250, 214, 117, 148, 85, 133, 128, 139, 72, 49, 215, 188, 63, 244, 222, 240, 142, 75, 122, 157, 229, 118, 210, 101, 134, 206, 198, 75, 97, 22, 0, 0, 0, 0, 0, 0, 0, 0, 0, 0, 0, 0, 0, 0, 12, 0, 0, 0, 0, 0, 0, 0, 114, 0, 0, 0, 0, 0, 0, 0]⟩
def awTag : ByteArray := ⟨#[26, 225, 11, 89, 79, 9, 226, 106, 126, 144, 46, 203, 208, 96, 6, 145]⟩
theorem awKey_b : Byts 32 awKey := by unfold Byts; decide +kernel
theorem awNon_b : Byts 12 awNon := by unfold Byts; decide +kernel
theorem aw_once0 : ∀ i, i < 32 → blk (ssq awKey 0 awNon 3) i = awOnce i := by decide +kernel
theorem aw_ks1 : ∀ i, i < 64 → blk (ssq awKey 1 awNon 3) i = awKs i := by decide +kernel
theorem aw_ks2 : ∀ i, i < 64 → blk (ssq awKey 2 awNon 3) i = awKs (64 + i) := by decide +kernel
theorem aw_ks (j : Nat) (h : j < 114) : ksb awKey awNon 1 j = awKs j := by
  unfold ksb
  by_cases h64 : j < 64
  · rw [show j / 64 = 0 by omega, show j % 64 = j by omega]
    exact aw_ks1 j h64
  · rw [show j / 64 = 1 by omega, show j % 64 = j - 64 by omega]
    have := aw_ks2 (j - 64) (by omega)
    rw [show 64 + (j - 64) = j by omega] at this
    exact this
theorem aw_under0 : mkS 114 (fun j => xorw (txt awText j) (awKs j)) = awUnder := by decide +kernel
theorem aw_under : underT awKey awNon awText = awUnder := by
  rw [← aw_under0]
  exact mkS_congr (n := 114) (fun j hj => by unfold strm; rw [aw_ks j hj])
theorem aw_marked : marked awUnder awBes = awMarked := by decide +kernel
theorem aw_tag0 : mkS 16 (digN (markN awOnce (txt awMarked) 160)) = awTag := by decide +kernel
theorem aw_once : onceK awKey awNon = awOnce := by
  funext i
  unfold onceK over
  by_cases h : i < 32
  · rw [if_pos (by omega), Nat.sub_zero, aw_once0 i h]
  · rw [if_neg (by omega)]
    unfold awOnce
    rw [List.getD_eq_getElem?_getD, List.getElem?_eq_none (by simp; omega)]
    rfl
theorem aw_tag : markT awKey awNon awUnder awBes = awTag := by
  unfold markT
  rw [aw_once, aw_marked]
  exact aw_tag0
theorem aw_box : boxT awKey awNon awText awBes = awUnder ++ awTag := by
  unfold boxT
  rw [aw_under, aw_tag]
theorem aw_size : (awUnder ++ awTag).size = 130 := by decide +kernel
theorem aw_cut : (awUnder ++ awTag).extract 114 130 = awTag := by decide +kernel
theorem awKey_at : ∀ i, i < 32 → awKey i = 128 + (i : Int) := by decide +kernel
theorem run_awNon (w : World) : (Instr.build 24 #[(0, .int .u8 7), (1, .int .u8 0), (2, .int .u8 0), (3, .int .u8 0), (4, .int .u8 64), (5, .int .u8 65), (6, .int .u8 66), (7, .int .u8 67), (8, .int .u8 68), (9, .int .u8 69), (10, .int .u8 70), (11, .int .u8 71)]).run Try.prog w = .ok (.agg (WA .u8 12 awNon)) w := by kernel_rfl
theorem exec_awNon {a : Act} {o : Oper} {w : World} (ho : o.op = .build 24 #[(0, .const (.int .u8 7)), (1, .const (.int .u8 0)), (2, .const (.int .u8 0)), (3, .const (.int .u8 0)), (4, .const (.int .u8 64)), (5, .const (.int .u8 65)), (6, .const (.int .u8 66)), (7, .const (.int .u8 67)), (8, .const (.int .u8 68)), (9, .const (.int .u8 69)), (10, .const (.int .u8 70)), (11, .const (.int .u8 71))]) : (execOp a.eval o).run Try.prog w = .ok (.value (.agg (WA .u8 12 awNon))) w := by
  have h := run_awNon w
  unfold execOp
  simp only [ho, List.map_toArray, List.map_cons, List.map_nil, Act.eval, Sem.run_bind, h, Result.andThen_ok, Sem.run_pure]
theorem awake_seal (w : World) : Calls Try.prog 8 #[.agg (WA .u8 32 awKey), .agg (WA .u8 12 awNon), .string awText, .string awBes] w fun e w' => e = .returned (.string (awUnder ++ awTag)) ∧ Below w.heap.size w w' := by
  have h := Seal_run awKey awNon awText awBes w awKey_b awNon_b (by decide) (by decide)
  rw [aw_box] at h
  exact h
set_option maxHeartbeats 4000000 in
theorem awake_run (w : World) : Calls Try.prog 14 #[] w fun e w' => e = .returned (.bool true) ∧ Below w.heap.size w w' := by
  have g0 : ArrAt (w.alloc (.cells (WA .u8 32 fun _ => 0) 22)) w.heap.size .u8 22 32 (fun _ => 0) := heap_alloc_new w _
  have hB : Below w.heap.size w (w.alloc (.cells (WA .u8 32 fun _ => 0) 22)) := (Below.refl _ w).alloc (Nat.le_refl _) _
  go_enter Try.func14, Try.ntmps14
  go_wp2_with fail
  go_loopg [2] 32 (fun gm iv v => ∃ i : Nat, Hid (gm + i = 32) ∧ iv = .int .i64 (i : Int) ∧ ArrAt v w.heap.size .u8 22 32 (fun j => if j < i then awKey j else 0) ∧ Below w.heap.size w v)
  case atStart => exact ⟨0, Hid.mk rfl, rfl, g0.congr (fun j _ => by rw [if_neg (by omega)]), hB⟩
  case round =>
    clear g0 hB
    obtain ⟨i, HI, rfl, g0, hB⟩ := hrel
    have hi8 : i ≤ 32 := by have := HI.out; omega
    by_cases hil : i < 32
    · have c0 := g0.cell i hil
      have f0 := g0.free i
      have g2 := Hid.mk ((g0.set i (128 + (i : Int)) hil).congr (s' := fun j => if j < i + 1 then awKey j else 0) (fun j hj => by
        unfold upd
        by_cases e : j = i
        · subst e; rw [if_pos rfl, if_pos (by omega), awKey_at j hj]
        · rw [if_neg e]
          show (if j < i then awKey j else 0) = _
          by_cases h : j < i
          · rw [if_pos h, if_pos (by omega)]
          · rw [if_neg h, if_neg (by omega)]))
      go_wp2_with fail
      go_roundg (32 - (i + 1))
      case rel => exact ⟨i + 1, Hid.mk (by omega), by go_num, g2.out, Below.setCell (p := ⟨w.heap.size, i, none⟩) hB (by simp) _⟩
      case measure => have := HI.out; omega
    · have hi2 : i = 32 := by omega
      subst hi2
      replace g0 := g0.congr (s' := awKey) (fun j hj => by rw [if_pos hj])
      go_wp2_with (first | (refine ld_arr isArr32 g0 (by rfl) ?_) | (refine wl_value rfl (exec_awNon rfl) ?_))
      have hL1 : (114 : Nat) ≤ (awUnder ++ awTag).size := by rw [aw_size]; decide
      have hC : (awUnder ++ awTag).extract 114 (awUnder ++ awTag).size = awTag := by rw [aw_size]; exact aw_cut
      have hS := aw_size
      refine (awake_seal _).mono ?_
      rintro e v1 ⟨rfl, hb⟩
      replace hB := hB.trans (hb.mono hB.size)
      clear hb g0
      generalize awUnder ++ awTag = bx at *
      go_wp2_with (first | (refine wl_value rfl (exec_slL (v := .string bx) (u := .int .i64 (114 : Nat)) rfl (by rfl) (by rfl) (strL bx 114 _ hL1)) ?_) | (refine wl_value rfl (exec_eqS (s := awTag) rfl (by rw [← hC]; rfl) (by rfl)) ?_))
      go_ret
      exact ⟨rfl, hB⟩
/-- Which of n things the number c speaks of. -/
def pkN (c n : Int) : Nat := ((if c < 0 then -(c + 1) else c) % n).toNat
theorem pkN_lt (c n : Int) (hn : 0 < n) : (pkN c n : Int) < n := by
  unfold pkN
  rw [Int.toNat_of_nonneg (Int.emod_nonneg _ (by omega))]
  exact Int.emod_lt_of_pos _ hn
theorem pick_run (c n : Int) (w : World) (h0 : -9223372036854775808 ≤ c) (h1 : c ≤ 9223372036854775807) (hn : 0 < n) (hn2 : n ≤ 9223372036854775807) :
    Calls Try.prog 17 #[.int .i64 c, .int .i64 n] w fun e w' => e = .returned (.int .i64 (pkN c n : Int)) ∧ Below w.heap.size w w' := by
  by_cases hc : c < 0
  · go_enter Try.func17, Try.ntmps17
    have HE : Hid (-(c + 1).tmod n = (pkN c n : Int)) := Hid.mk (by
      unfold pkN
      rw [if_pos hc, ← Int.neg_tmod, Int.tmod_eq_emod_of_nonneg (by omega), Int.toNat_of_nonneg (Int.emod_nonneg _ (by omega))])
    have hl := Int.emod_lt_of_pos (-(c + 1)) hn
    have hp := Int.emod_nonneg (-(c + 1)) (b := n) (by omega)
    go_wp2
    go_ret
    exact ⟨by rw [← HE.out]; rfl, Below.refl _ _⟩
  · have e : c % n = (pkN c n : Int) := by unfold pkN; rw [if_neg hc, Int.toNat_of_nonneg (Int.emod_nonneg _ (by omega))]
    have hl := Int.emod_lt_of_pos c hn
    have hp := Int.emod_nonneg c (b := n) (by omega)
    have HE := Hid.mk e
    clear e
    go_enter Try.func17, Try.ntmps17
    go_wp2
    go_ret
    exact ⟨by rw [← HE.out]; rfl, Below.refl _ _⟩
theorem enterAwake (args : Array Value) (w : World) : (callFunc 14 args).run Try.prog w = .ok (.enter 14 args) w := by kernel_rfl
theorem enterPick (args : Array Value) (w : World) : (callFunc 17 args).run Try.prog w = .ok (.enter 17 args) w := by kernel_rfl
end Go.Proofs.Ytfkgfojofdachaa
/-
  Own text. Boxes: what was sealed opens, what opens was sealed, another mark does not open.
-/
namespace Go.Proofs.Ytfkgfojofdachaa
open Go.RowKit Go.Proofs
set_option maxRecDepth 100000
theorem app_left (a b : ByteArray) : (a ++ b).extract 0 a.size = a := ByteArray.extract_append_eq_left rfl
theorem app_right (a b : ByteArray) : (a ++ b).extract a.size (a ++ b).size = b := by
  have hs : (a ++ b).size = a.size + b.size := ByteArray.size_append
  refine same_ext (by rw [extract_size, hs]; omega) (fun j hj => ?_)
  rw [extract_size, hs] at hj
  rw [txt_extract _ _ _ (by omega), txt_append, if_neg (by omega), Nat.add_sub_cancel_left]
theorem app_cut (s : ByteArray) (n : Nat) (h : n ≤ s.size) : s.extract 0 n ++ s.extract n s.size = s := by
  have h1 := take_size s n h
  refine same_ext (by rw [ByteArray.size_append, h1, extract_size]; omega) (fun j hj => ?_)
  rw [ByteArray.size_append, h1, extract_size] at hj
  rw [txt_append, h1]
  by_cases e : j < n
  · rw [if_pos e, txt_take s n j e h]
  · rw [if_neg e, txt_extract _ _ _ (by omega), show n + (j - n) = j by omega]
theorem under_under (key nonce : Nat → Int) (s : ByteArray) : underT key nonce (underT key nonce s) = s := by
  unfold underT
  rw [mkS_size]
  conv => rhs; rw [← mkS_txt s]
  refine mkS_congr (fun j hj => ?_)
  show xorw (txt (mkS s.size (strm key nonce 1 s)) j) (ksb key nonce 1 j) = txt s j
  rw [txt_mkS (strm_b key nonce 1 s j) hj]
  exact xorw_back8 (txt_b s j) (blk_b _ _ (Nat.mod_lt _ (by decide)))
theorem open_app (key nonce : Nat → Int) (u m beside : ByteArray) (hm : m.size = 16) : openT key nonce (u ++ m) beside = if m = markT key nonce u beside then (underT key nonce u, 0) else (ByteArray.empty, 13) := by
  have hs : (u ++ m).size = u.size + 16 := by rw [ByteArray.size_append, hm]
  have h1 : (u ++ m).size - 16 = u.size := by omega
  unfold openT
  rw [h1, app_left, app_right]
  by_cases e : m = markT key nonce u beside
  · rw [if_pos ⟨by omega, e⟩, if_pos e]
  · rw [if_neg (fun h => e h.2), if_neg e]
/-- What was sealed opens. -/
theorem open_box (key nonce : Nat → Int) (text beside : ByteArray) : openT key nonce (boxT key nonce text beside) beside = (text, 0) := by
  unfold boxT
  rw [open_app _ _ _ _ _ (markT_size _ _ _ _), if_pos rfl, under_under]
/-- What opens is the box of what comes out. -/
theorem box_open (key nonce : Nat → Int) (box beside : ByteArray) (h : (openT key nonce box beside).2 = 0) : boxT key nonce (openT key nonce box beside).1 beside = box := by
  by_cases h16 : 16 ≤ box.size
  · have e := app_cut box (box.size - 16) (by omega)
    have hm : (box.extract (box.size - 16) box.size).size = 16 := by rw [extract_size]; omega
    have ho := open_app key nonce (box.extract 0 (box.size - 16)) (box.extract (box.size - 16) box.size) beside hm
    rw [e] at ho
    rw [ho] at h ⊢
    by_cases hx : box.extract (box.size - 16) box.size = markT key nonce (box.extract 0 (box.size - 16)) beside
    · rw [if_pos hx]
      show boxT key nonce (underT key nonce (box.extract 0 (box.size - 16))) beside = box
      unfold boxT
      rw [under_under, ← hx]
      exact e
    · rw [if_neg hx] at h
      exact absurd h (by decide)
  · exfalso
    unfold openT at h
    rw [if_neg (fun h => h16 h.1)] at h
    exact absurd h (by decide)
theorem open_13 (key nonce : Nat → Int) (box beside : ByteArray) (h : ¬ (openT key nonce box beside).2 = 0) : openT key nonce box beside = (ByteArray.empty, 13) := by
  unfold openT at *
  split at h
  · exact absurd rfl h
  · rename_i hc
    rw [if_neg hc]
/-- A text with another byte at k. -/
def turnT (s : ByteArray) (k : Nat) (to : Int) : ByteArray := mkS s.size (upd (txt s) k (xorw (txt s k) to))
theorem turnT_size (s : ByteArray) (k : Nat) (to : Int) : (turnT s k to).size = s.size := mkS_size _ _
theorem turnT_0 (s : ByteArray) (k : Nat) : turnT s k 0 = s := by
  unfold turnT
  conv => rhs; rw [← mkS_txt s]
  refine mkS_congr (fun j _ => ?_)
  unfold upd
  by_cases e : j = k
  · rw [if_pos e, e, xorw_comm, xorw_zero (txt_b s k).1]
  · rw [if_neg e]
theorem xorw_ne {x y : Int} (hx : 0 ≤ x ∧ x < 256) (hy : 0 < y ∧ y < 256) : xorw x y ≠ x := by
  unfold xorw
  intro h
  have h2 : x.toNat ^^^ y.toNat = x.toNat := by omega
  have h3 : x.toNat ^^^ (x.toNat ^^^ y.toNat) = y.toNat := by rw [← Nat.xor_assoc, Nat.xor_self, Nat.zero_xor]
  rw [h2, Nat.xor_self] at h3
  omega
theorem txt_turn {s : ByteArray} {k j : Nat} {to : Int} (ht : 0 ≤ to ∧ to < 256) (hj : j < s.size) : txt (turnT s k to) j = if j = k then xorw (txt s k) to else txt s j := by
  unfold turnT
  rw [txt_mkS (by
    unfold upd
    split
    · exact xorw_b (txt_b s k) ht
    · exact txt_b s j) hj]
  rfl
/-- Another mark does not open. -/
theorem open_turned (key nonce : Nat → Int) (text beside : ByteArray) (p : Nat) (to : Int) (hp : p < 16) (ht : 0 < to ∧ to < 256) : openT key nonce (turnT (boxT key nonce text beside) (text.size + p) to) beside = (ByteArray.empty, 13) := by
  have ht0 : 0 ≤ to ∧ to < 256 := by omega
  have hu := underT_size key nonce text
  have hm := markT_size key nonce (underT key nonce text) beside
  have e : turnT (boxT key nonce text beside) (text.size + p) to = underT key nonce text ++ turnT (markT key nonce (underT key nonce text) beside) p to := by
    have hb := boxT_size key nonce text beside
    refine same_ext (by rw [turnT_size, hb, ByteArray.size_append, turnT_size, hu, hm]) (fun j hj => ?_)
    rw [turnT_size, hb] at hj
    rw [txt_turn ht0 (by omega), txt_append, hu]
    unfold boxT
    rw [txt_append, txt_append, hu]
    by_cases h : j < text.size
    · rw [if_pos h, if_pos h, if_neg (by omega)]
    · rw [if_neg h, if_neg h, txt_turn ht0 (by omega), if_neg (show ¬ text.size + p < text.size by omega), Nat.add_sub_cancel_left]
      by_cases h2 : j = text.size + p
      · rw [if_pos h2, if_pos (by omega)]
      · rw [if_neg h2, if_neg (by omega)]
  rw [e, open_app _ _ _ _ _ (by rw [turnT_size, hm]), if_neg]
  intro h
  have h2 := congrArg (fun s => txt s p) h
  have h3 : txt (turnT (markT key nonce (underT key nonce text) beside) p to) p = txt (markT key nonce (underT key nonce text) beside) p := h2
  rw [txt_turn ht0 (by omega), if_pos rfl] at h3
  exact xorw_ne (txt_b _ p) ht h3
theorem open_short (key nonce : Nat → Int) (box beside : ByteArray) (h : box.size < 16) : openT key nonce box beside = (ByteArray.empty, 13) := by
  unfold openT
  rw [if_neg (fun h2 => by omega)]
end Go.Proofs.Ytfkgfojofdachaa
/-
  Own text. Arrays of bytes as arguments of the laws of aead.
-/
namespace Go.Proofs.Ytfkgfojofdachaa
open Go.ChangeShapes Go.WideShapes Go.ChangeAt Go.WideMaps Go.WideElems Go.RowKit Go.Proofs
set_option maxRecDepth 100000
theorem cellsT32 : Try.prog.cellsOf 22 = 32 := by kernel_rfl
theorem open_row32 {H : Type} {enc : TypeId × Value → H} {W : World} {base : Nat} {sp : Nat → Bool} {v : Value} {d : DataW H} {p : List MemPlace} (hv : Value.okWide Try.prog W .any base 22 v) (h : DataW.Trod enc Try.prog W 0 sp true 22 v d p) : ∃ s, Byts 32 s ∧ v = .agg (WA .u8 32 s) ∧ p = [] :=
  open_row Try.underlying22 cellsT32 hv h
theorem row32_rec : Try.prog.readableRec 22 = true := by kernel_rfl
theorem row32_row : 22 < Try.prog.types.size := of_decide_eq_true (by kernel_rfl)
theorem cellsT24 : Try.prog.cellsOf 23 = 24 := by kernel_rfl
theorem open_row24 {H : Type} {enc : TypeId × Value → H} {W : World} {base : Nat} {sp : Nat → Bool} {v : Value} {d : DataW H} {p : List MemPlace} (hv : Value.okWide Try.prog W .any base 23 v) (h : DataW.Trod enc Try.prog W 0 sp true 23 v d p) : ∃ s, Byts 24 s ∧ v = .agg (WA .u8 24 s) ∧ p = [] :=
  open_row Try.underlying23 cellsT24 hv h
theorem row24_rec : Try.prog.readableRec 23 = true := by kernel_rfl
theorem row24_row : 23 < Try.prog.types.size := of_decide_eq_true (by kernel_rfl)
theorem cellsT12 : Try.prog.cellsOf 24 = 12 := by kernel_rfl
theorem open_row12 {H : Type} {enc : TypeId × Value → H} {W : World} {base : Nat} {sp : Nat → Bool} {v : Value} {d : DataW H} {p : List MemPlace} (hv : Value.okWide Try.prog W .any base 24 v) (h : DataW.Trod enc Try.prog W 0 sp true 24 v d p) : ∃ s, Byts 12 s ∧ v = .agg (WA .u8 12 s) ∧ p = [] :=
  open_row Try.underlying24 cellsT12 hv h
theorem row12_rec : Try.prog.readableRec 24 = true := by kernel_rfl
theorem row12_row : 24 < Try.prog.types.size := of_decide_eq_true (by kernel_rfl)
end Go.Proofs.Ytfkgfojofdachaa
