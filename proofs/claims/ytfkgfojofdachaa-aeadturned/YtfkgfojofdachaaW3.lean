/-
  Own text. The walk of the law AeadOpens.
-/
import Derived.Test.YtfkgfojofdachaaW2
namespace Go.Proofs.Ytfkgfojofdachaa
open Go.RowKit Go.Proofs
set_option maxRecDepth 100000
theorem over12_b {nn r : Nat → Int} (h : ∀ i, i < 12 → 0 ≤ r i ∧ r i < 256) : Byts 12 (over nn 0 12 r) := fun i hi => by
  unfold over
  rw [if_pos (by omega)]
  exact h _ (by omega)
set_option maxHeartbeats 8000000 in
theorem opens_walk (key nn : Nat → Int) (box beside : ByteArray) (w : World) (hk : Byts 32 key) (hn : Byts 24 nn) (ht : box.size ≤ 140737488355328) (hbs : beside.size ≤ 281474976710656) :
    Calls Try.prog 4 #[.agg (WA .u8 32 key), .agg (WA .u8 24 nn), .string box, .string beside] w fun e w' => e = .returned (.bool true) ∧ Below w.heap.size w w' := by
  have g0 : ArrAt (((w.alloc (.cells (WA .u8 32 key) 22)).alloc (.cells (WA .u8 24 nn) 23)).alloc (.cells (WA .u8 12 fun _ => 0) 24)) w.heap.size .u8 22 32 key := heap_a31 w _ _ _
  have g1 : ArrAt (((w.alloc (.cells (WA .u8 32 key) 22)).alloc (.cells (WA .u8 24 nn) 23)).alloc (.cells (WA .u8 12 fun _ => 0) 24)) (w.heap.size + 1) .u8 23 24 nn := heap_a32 w _ _ _
  have g2 : ArrAt (((w.alloc (.cells (WA .u8 32 key) 22)).alloc (.cells (WA .u8 24 nn) 23)).alloc (.cells (WA .u8 12 fun _ => 0) 24)) (w.heap.size + 1 + 1) .u8 24 12 (fun _ => 0) := heap_a3 w _ _ _
  have hB : Below w.heap.size w (((w.alloc (.cells (WA .u8 32 key) 22)).alloc (.cells (WA .u8 24 nn) 23)).alloc (.cells (WA .u8 12 fun _ => 0) 24)) := (((Below.refl _ w).alloc (by simp) _).alloc (by simp) _).alloc (by simp; omega) _
  go_enter Try.func4, Try.ntmps4
  go_wp2_with fail
  refine wp_gen (fun v => ArrAt v (w.heap.size + 1 + 1) .u8 24 12 (fun _ => 0) ∧ ArrAt v w.heap.size .u8 22 32 (key) ∧ ArrAt v (w.heap.size + 1) .u8 23 24 (nn) ∧ Below w.heap.size w v) ⟨g2, g0, g1, hB⟩ ?_
  clear g2 g0 g1 hB
  rintro v0 ⟨g2, g0, g1, hB⟩
  refine wp_region3 (Below w.heap.size w) v0.heap.size
    [((w.heap.size + 1 + 1), once (WA .u8 12 (fun _ => 0)) 24 2 (WA .u8 12 (over (fun _ => 0) 0 12 (nn)))), (w.heap.size, fixd (WA .u8 32 (key)) 22), ((w.heap.size + 1), fixd (WA .u8 24 (nn)) 23)]
    [kv (.slice (some ⟨(w.heap.size + 1 + 1), 0, none⟩) 12 12), kv (.slice (some ⟨(w.heap.size + 1), 0, none⟩) 24 24), .val fun _ => True]
    [.none, .none, .base 0 1]
    [some 18, some 19, some 20]
    [(9, .pointer (some ⟨(w.heap.size + 1 + 1), 0, none⟩)), (5, .pointer (some ⟨(w.heap.size + 1), 0, none⟩))]
    [[], [], [.slot 0, .slot 1, .base 0 0, .base 2 0]]
    [.base 0 1, .base 1 0, .base 2 0] [18, 19, 20]
    rfl (by kernel_rfl) ⟨rfl, rfl, trivial⟩ (Below.drew hB) (Nat.le_refl _) ⟨⟨g2.lt, obIn g2⟩, ⟨g0.lt, obIn g0⟩, ⟨g1.lt, obIn g1⟩, trivial⟩ ⟨⟨(show ((w.heap.size + 1 + 1) : Nat) ≠ w.heap.size from by omega), (show ((w.heap.size + 1 + 1) : Nat) ≠ (w.heap.size + 1) from by omega), trivial⟩, ⟨trivial, trivial⟩, trivial, trivial⟩ (below_G hB.size ⟨by omega, by omega, by omega, trivial⟩)
    ⟨
      -- 0
      (fun Q aq ww own hS hBg fr kn => .inl ⟨trivial, fun K hK => wp_value (exec_sl (v := .pointer (some ⟨(w.heap.size + 1 + 1), 0, none⟩)) rfl fr.1 (sl12w (w.heap.size + 1 + 1) ww)) (hK _ _ ⟨Touch.refl _ _, rfl⟩)⟩),
      -- 1
      (fun Q aq ww own hS hBg fr kn => .inl ⟨trivial, fun K hK => wp_value (exec_sl (v := .pointer (some ⟨(w.heap.size + 1), 0, none⟩)) rfl fr.2.1 (sl24w (w.heap.size + 1) ww)) (hK _ _ ⟨Touch.refl _ _, rfl⟩)⟩),
      -- 2
      (fun Q aq ww own hS hBg fr kn => .inl ⟨trivial, fun K hK => act_copy rfl kn.1 kn.2.1 (obAt kn.2.2.1) (m := 12) rfl (by omega) (r := nn) (fun q hq => by rw [Nat.zero_add]; exact ArrAt.cell (obAt kn.2.2.2.1) q (by omega)) (fun w2 hg ho => hK _ _ ⟨⟨touch_only ho, obIn hg⟩, trivial⟩)⟩),
      trivial⟩ ?_
  intro vs own v1 hB1 hs1 kn inj
  clear inj g2 g0 g1 hB
  have g2 : ArrAt v1 (w.heap.size + 1 + 1) .u8 24 12 (over (fun _ => 0) 0 12 (nn)) := obAt kn.1
  have g0 : ArrAt v1 w.heap.size .u8 22 32 (key) := obAt kn.2.1
  have g1 : ArrAt v1 (w.heap.size + 1) .u8 23 24 (nn) := obAt kn.2.2.1
  have hB := hB1
  clear kn hB1 hs1
  simp only [putAll, Act.put, List.setIfInBounds_toArray, List.set_cons_zero, List.set_cons_succ]
  have hq : Byts 12 (over (fun _ => 0) 0 12 (nn)) := over12_b (fun i hi => hn i (by omega))
  generalize over (fun _ => 0) 0 12 (nn) = non at *
  have h1 := fun w => Open_run key non box beside w hk hq ht hbs
  have h2 := fun w => OpenWide_run key nn box beside w hk hn ht hbs
  have h3 := fun w => rOpen_run key non box beside w hk hq ht hbs
  have h4 := fun w => rOpenWide_run key nn box beside w hk hn ht hbs
  generalize openT key non box beside = x at *
  generalize openT (der key nn) (tailN fun j => nn (16 + j)) box beside = y at *
  obtain ⟨x1, x2⟩ := x
  obtain ⟨y1, y2⟩ := y
  simp only at h1 h2 h3 h4
  go_wp2_with (first | (refine ld_arrG isArr32 g0 (by rfl) (by rfl) ?_) | (refine ld_arrG isArr12 g2 (by rfl) (by rfl) ?_) | (refine ld_arrG isArr24 g1 (by rfl) (by rfl) ?_))
  refine (h1 _).mono ?_
  rintro e v2 ⟨rfl, hb⟩
  replace g0 := g0.kept hb
  replace g1 := g1.kept hb
  replace g2 := g2.kept hb
  replace hB := hB.trans (hb.mono hB.size)
  clear hb
  clear h1
  go_wp2_with (first | (refine ld_arrG isArr32 g0 (by rfl) (by rfl) ?_) | (refine ld_arrG isArr12 g2 (by rfl) (by rfl) ?_) | (refine ld_arrG isArr24 g1 (by rfl) (by rfl) ?_))
  refine (h2 _).mono ?_
  rintro e v3 ⟨rfl, hb⟩
  replace g0 := g0.kept hb
  replace g1 := g1.kept hb
  replace g2 := g2.kept hb
  replace hB := hB.trans (hb.mono hB.size)
  clear hb
  clear h2
  go_wp2_with (first | (refine ld_arrG isArr32 g0 (by rfl) (by rfl) ?_) | (refine ld_arrG isArr12 g2 (by rfl) (by rfl) ?_) | (refine ld_arrG isArr24 g1 (by rfl) (by rfl) ?_))
  refine (h3 _).mono ?_
  rintro e v4 ⟨rfl, hb⟩
  replace g0 := g0.kept hb
  replace g1 := g1.kept hb
  replace g2 := g2.kept hb
  replace hB := hB.trans (hb.mono hB.size)
  clear hb
  clear h3
  go_wp2_with (first | (refine ld_arrG isArr32 g0 (by rfl) (by rfl) ?_) | (refine ld_arrG isArr12 g2 (by rfl) (by rfl) ?_) | (refine ld_arrG isArr24 g1 (by rfl) (by rfl) ?_))
  refine (h4 _).mono ?_
  rintro e v5 ⟨rfl, hb⟩
  replace g0 := g0.kept hb
  replace g1 := g1.kept hb
  replace g2 := g2.kept hb
  replace hB := hB.trans (hb.mono hB.size)
  clear hb
  clear h4
  go_wp2_with (first | (refine wl_value (by rfl) (exec_eqS rfl (by rfl) (by rfl)) ?_) | (refine wl_value (by rfl) (exec_eqE rfl (by rfl) (by rfl)) ?_))
  refine (awake_run _).mono ?_
  rintro e v6 ⟨rfl, hb⟩
  replace hB := hB.trans (hb.mono hB.size)
  clear hb g0 g1 g2
  go_wp2_with fail
  go_ret
  exact ⟨rfl, hB⟩
theorem opens_lift (key : Nat → Int) (hk : Byts 32 key) (nn : Nat → Int) (hn : Byts 24 nn) (box : ByteArray) (ht : box.data.toList.length ≤ reachBytes) (beside : ByteArray) (hb : beside.data.toList.length ≤ reachBytes) (w : World) :
    Calls Try.prog 4 #[.agg (WA .u8 32 key), .agg (WA .u8 24 nn), .string box, .string beside] w fun e w' => e = .returned (.bool true) ∧ Below w.heap.size w w' :=
  opens_walk key nn box beside w hk hn (Nat.le_trans (reach_size ht) (by decide)) (Nat.le_trans (reach_size hb) (by decide))
end Go.Proofs.Ytfkgfojofdachaa
