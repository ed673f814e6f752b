/-
  Own text. What the quarter round of the document's answer does: the words at four places of a row, behind a quarter round of them.
-/
import Derived.Test.YtbkbcfimpaolmaaGreatJ3
import Derived.ArgAppend
import Derived.Laws.CopyOwn
import Derived.Shelf.Strings.Builder1
import Derived.Shelf.Strings.Builder2
import Derived.Test.YtbkbcfimpaolmaaGreatProg
namespace Go.Proofs.YtbkbcfimpaolmaaGreat
open Go.RowKit Go.Proofs
set_option maxRecDepth 100000
theorem enterTurn (args : Array Value) (w : World) : (callFunc 110 args).run Tryz.prog w = .ok (.enter 110 args) w := by kernel_rfl
theorem sum_nn {x y : Int} (hx : W32 x) (hy : W32 y) : 0 ≤ x + y := by unfold W32 at *; omega
theorem qrow_chain (s : Nat → Int) (a b c d : Nat) (hab : a ≠ b) (hac : a ≠ c) (had : a ≠ d) (hbc : b ≠ c) (hbd : b ≠ d) (hcd : c ≠ d) {s1 s2 s3 s4 s5 s6 s7 s8 : Nat → Int}
    (h1 : upd s a (addw (s a) (s b)) = s1) (h2 : upd s1 d (rotw (xorw (s1 d) (s1 a)) 16) = s2) (h3 : upd s2 c (addw (s2 c) (s2 d)) = s3) (h4 : upd s3 b (rotw (xorw (s3 b) (s3 c)) 12) = s4)
    (h5 : upd s4 a (addw (s4 a) (s4 b)) = s5) (h6 : upd s5 d (rotw (xorw (s5 d) (s5 a)) 8) = s6) (h7 : upd s6 c (addw (s6 c) (s6 d)) = s7) (h8 : upd s7 b (rotw (xorw (s7 b) (s7 c)) 7) = s8) : s8 = qrow s a b c d := by
  have key : ∀ (f : Nat → Int) (x : Nat) (v : Int), upd f x v x = v := fun f x v => by simp [upd]
  have oth : ∀ (f : Nat → Int) (x y : Nat) (v : Int), y ≠ x → upd f x v y = f y := fun f x y v h => by simp [upd, h]
  have a1 : s1 a = addw (s a) (s b) := by rw [← h1, key]
  have b1 : s1 b = s b := by rw [← h1, oth _ _ _ _ hab.symm]
  have c1 : s1 c = s c := by rw [← h1, oth _ _ _ _ hac.symm]
  have d1 : s1 d = s d := by rw [← h1, oth _ _ _ _ had.symm]
  have a2 : s2 a = s1 a := by rw [← h2, oth _ _ _ _ had]
  have b2 : s2 b = s b := by rw [← h2, oth _ _ _ _ hbd, b1]
  have c2 : s2 c = s c := by rw [← h2, oth _ _ _ _ hcd, c1]
  have d2 : s2 d = rotw (xorw (s1 d) (s1 a)) 16 := by rw [← h2, key]
  have a3 : s3 a = s2 a := by rw [← h3, oth _ _ _ _ hac]
  have b3 : s3 b = s b := by rw [← h3, oth _ _ _ _ hbc, b2]
  have c3 : s3 c = addw (s2 c) (s2 d) := by rw [← h3, key]
  have d3 : s3 d = s2 d := by rw [← h3, oth _ _ _ _ hcd.symm]
  have a4 : s4 a = s3 a := by rw [← h4, oth _ _ _ _ hab]
  have b4 : s4 b = rotw (xorw (s3 b) (s3 c)) 12 := by rw [← h4, key]
  have c4 : s4 c = s3 c := by rw [← h4, oth _ _ _ _ hbc.symm]
  have d4 : s4 d = s3 d := by rw [← h4, oth _ _ _ _ hbd.symm]
  have a5 : s5 a = addw (s4 a) (s4 b) := by rw [← h5, key]
  have b5 : s5 b = s4 b := by rw [← h5, oth _ _ _ _ hab.symm]
  have c5 : s5 c = s4 c := by rw [← h5, oth _ _ _ _ hac.symm]
  have d5 : s5 d = s4 d := by rw [← h5, oth _ _ _ _ had.symm]
  have a6 : s6 a = s5 a := by rw [← h6, oth _ _ _ _ had]
  have b6 : s6 b = s5 b := by rw [← h6, oth _ _ _ _ hbd]
  have c6 : s6 c = s5 c := by rw [← h6, oth _ _ _ _ hcd]
  have d6 : s6 d = rotw (xorw (s5 d) (s5 a)) 8 := by rw [← h6, key]
  have a7 : s7 a = s6 a := by rw [← h7, oth _ _ _ _ hac]
  have b7 : s7 b = s6 b := by rw [← h7, oth _ _ _ _ hbc]
  have c7 : s7 c = addw (s6 c) (s6 d) := by rw [← h7, key]
  have d7 : s7 d = s6 d := by rw [← h7, oth _ _ _ _ hcd.symm]
  have a8 : s8 a = s7 a := by rw [← h8, oth _ _ _ _ hab]
  have b8 : s8 b = rotw (xorw (s7 b) (s7 c)) 7 := by rw [← h8, key]
  have c8 : s8 c = s7 c := by rw [← h8, oth _ _ _ _ hbc.symm]
  have d8 : s8 d = s7 d := by rw [← h8, oth _ _ _ _ hbd.symm]
  have hq : quart ⟨s a, s b, s c, s d⟩ = ⟨s8 a, s8 b, s8 c, s8 d⟩ := by
    simp only [quart, half]
    rw [a8, b8, c8, d8, a7, b7, c7, d7, a6, b6, c6, d6, a5, b5, c5, d5, a4, b4, c4, d4, a3, b3, c3, d3, a2, c2, d2, a1, d1]
  funext i
  unfold qrow
  rw [hq]
  by_cases ia : i = a
  · subst ia; rw [oth _ _ _ _ had, oth _ _ _ _ hac, oth _ _ _ _ hab, key]
  by_cases ib : i = b
  · subst ib; rw [oth _ _ _ _ hbd, oth _ _ _ _ hbc, key]
  by_cases ic : i = c
  · subst ic; rw [oth _ _ _ _ hcd, key]
  by_cases id : i = d
  · subst id; rw [key]
  rw [oth _ _ _ _ id, oth _ _ _ _ ic, oth _ _ _ _ ib, oth _ _ _ _ ia]
  rw [← h8, oth _ _ _ _ ib, ← h7, oth _ _ _ _ ic, ← h6, oth _ _ _ _ id, ← h5, oth _ _ _ _ ia, ← h4, oth _ _ _ _ ib, ← h3, oth _ _ _ _ ic, ← h2, oth _ _ _ _ id, ← h1, oth _ _ _ _ ia]
set_option maxHeartbeats 4000000 in
set_option maxRecDepth 100000 in
theorem rquarter_run (b n cp : Nat) (s0 : Nat → Int) (a y c d : Nat) (w : World) (hR : RowAt w b .i64 3 n s0) (Ws0 : ∀ i, i < n → W32 (s0 i)) (ha : a < n) (hy : y < n) (hc : c < n) (hd : d < n)
    (hab : a ≠ y) (hac : a ≠ c) (had : a ≠ d) (hbc : y ≠ c) (hbd : y ≠ d) (hcd : c ≠ d) :
    Calls Tryz.prog 100 #[.slice (some ⟨b, 0, none⟩) n cp, .int .i64 (a : Int), .int .i64 (y : Int), .int .i64 (c : Int), .int .i64 (d : Int)] w fun e w' =>
      e = .returned (.tuple #[]) ∧ RowAt w' b .i64 3 n (qrow s0 a y c d) ∧ Touch (fun k => k = b) w w' := by
  have hT := Touch.refl (fun k => k = b) w
  go_enter Tryz.func100, Tryz.ntmps100
  obtain ⟨s1, hs1⟩ : ∃ f, upd s0 a (addw (s0 a) (s0 y)) = f := ⟨_, rfl⟩
  have Ws1 : ∀ i, i < n → W32 (s1 i) := by rw [← hs1]; exact w32_upd Ws0 (addw_w _ _)
  go_wp2_with fail
  refine wp_region3 (Touch (fun k => k = b) w) w.heap.size
    [(b, ⟨rowOb .i64 3 n s0, [(13, rowOb .i64 3 n s1)]⟩)]
    [kv (.slice (some ⟨b, 0, none⟩) n cp), kv (.int .i64 (a : Int)), kv (.slice (some ⟨b, 0, none⟩) n cp), kv (.int .i64 (a : Int)), kv (.pointer (some ⟨b, 0 + a, none⟩)), kv (.int .i64 (s0 a)), kv (.slice (some ⟨b, 0, none⟩) n cp), kv (.int .i64 (y : Int)), kv (.pointer (some ⟨b, 0 + y, none⟩)), kv (.int .i64 (s0 y)), kv (.int .i64 (s0 a + s0 y)), kv (.int .i64 (addw (s0 a) (s0 y))), kv (.pointer (some ⟨b, 0 + a, none⟩)), .val fun _ => True]
    [.none, .none, .none, .none, .none, .none, .none, .none, .none, .none, .none, .none, .none, .base 0 1]
    [some 10, some 11, some 12, some 13, some 14, some 15, some 16, some 17, some 18, some 19, some 20, some 21, some 22, none]
    [(0, .slice (some ⟨b, 0, none⟩) n cp), (1, .int .i64 (a : Int)), (2, .int .i64 (y : Int))]
    [[], [], [], [], [.slot 2, .slot 3], [.slot 4, .base 0 0], [], [], [.slot 6, .slot 7], [.slot 8, .base 0 0], [.slot 5, .slot 9], [.slot 10], [.slot 0, .slot 1], [.slot 12, .base 0 0, .slot 11]]
    [.base 0 1] [10, 11, 12, 13, 14, 15, 16, 17, 18, 19, 20, 21, 22]
    rfl (by kernel_rfl) ⟨rfl, rfl, rfl, trivial⟩ (Touch.drew hT) (Nat.le_refl _) ⟨⟨RowAt.lt hR, hR⟩, trivial⟩ ⟨trivial, trivial⟩ (touch_S hT.size)
    ⟨
      -- 0
      (fun Q aq ww own hS hBg fr kn => .inl ⟨trivial, fun K hK => wp_value (exec_move rfl fr.1) (hK _ _ ⟨Touch.refl _ _, rfl⟩)⟩),
      -- 1
      (fun Q aq ww own hS hBg fr kn => .inl ⟨trivial, fun K hK => wp_value (exec_move rfl fr.2.1) (hK _ _ ⟨Touch.refl _ _, rfl⟩)⟩),
      -- 2
      (fun Q aq ww own hS hBg fr kn => .inl ⟨trivial, fun K hK => wp_value (exec_move rfl fr.1) (hK _ _ ⟨Touch.refl _ _, rfl⟩)⟩),
      -- 3
      (fun Q aq ww own hS hBg fr kn => .inl ⟨trivial, fun K hK => wp_value (exec_move rfl fr.2.1) (hK _ _ ⟨Touch.refl _ _, rfl⟩)⟩),
      -- 4
      (fun Q aq ww own hS hBg fr kn => .inl ⟨trivial, fun K hK => wp_value (exec_idx rfl Tryz.underlying121 size_int kn.1 kn.2.1 ha) (hK _ _ ⟨Touch.refl _ _, rfl⟩)⟩),
      -- 5
      (fun Q aq ww own hS hBg fr kn => .inl ⟨trivial, fun K hK => wp_value (exec_ld rfl kn.1 (load_int (cell0 kn.2.1 ha))) (hK _ _ ⟨Touch.refl _ _, rfl⟩)⟩),
      -- 6
      (fun Q aq ww own hS hBg fr kn => .inl ⟨trivial, fun K hK => wp_value (exec_move rfl fr.1) (hK _ _ ⟨Touch.refl _ _, rfl⟩)⟩),
      -- 7
      (fun Q aq ww own hS hBg fr kn => .inl ⟨trivial, fun K hK => wp_value (exec_move rfl fr.2.2.1) (hK _ _ ⟨Touch.refl _ _, rfl⟩)⟩),
      -- 8
      (fun Q aq ww own hS hBg fr kn => .inl ⟨trivial, fun K hK => wp_value (exec_idx rfl Tryz.underlying121 size_int kn.1 kn.2.1 hy) (hK _ _ ⟨Touch.refl _ _, rfl⟩)⟩),
      -- 9
      (fun Q aq ww own hS hBg fr kn => .inl ⟨trivial, fun K hK => wp_value (exec_ld rfl kn.1 (load_int (cell0 kn.2.1 hy))) (hK _ _ ⟨Touch.refl _ _, rfl⟩)⟩),
      -- 10
      (fun Q aq ww own hS hBg fr kn => .inl ⟨trivial, fun K hK => wp_value (exec_add rfl kn.1 kn.2.1 (sum_lo (Ws0 a ha) (Ws0 y hy)) (sum_hi (Ws0 a ha) (Ws0 y hy))) (hK _ _ ⟨Touch.refl _ _, rfl⟩)⟩),
      -- 11
      (fun Q aq ww own hS hBg fr kn => .inl ⟨trivial, fun K hK => wp_value (exec_rem rfl kn.1 (sum_nn (Ws0 a ha) (Ws0 y hy)) (sum_hi (Ws0 a ha) (Ws0 y hy))) (hK _ _ ⟨Touch.refl _ _, rfl⟩)⟩),
      -- 12
      (fun Q aq ww own hS hBg fr kn => .inl ⟨trivial, fun K hK => wp_value (exec_idx rfl Tryz.underlying121 size_int kn.1 kn.2.1 ha) (hK _ _ ⟨Touch.refl _ _, rfl⟩)⟩),
      -- 13
      (fun Q aq ww own hS hBg fr kn => .inl ⟨trivial, fun K hK => act_cell rfl (ptr0 kn.1) kn.2.2.1 kn.2.1 ha (fun w2 hg ho => hK _ _ ⟨⟨touch_only ho, hs1 ▸ hg⟩, trivial⟩)⟩),
      trivial⟩ ?_
  intro vs0 own v1 hT0 hs0 kn inj
  clear inj
  replace hR : RowAt v1 b .i64 3 n s1 := kn.1
  clear kn hs0
  replace hT := hT0
  clear hT0 own
  simp only [putAll, Act.put, List.setIfInBounds_toArray, List.set_cons_zero, List.set_cons_succ]
  obtain ⟨s2, hs2⟩ : ∃ f, upd s1 d (rotw (xorw (s1 d) (s1 a)) 16) = f := ⟨_, rfl⟩
  have Ws2 : ∀ i, i < n → W32 (s2 i) := by rw [← hs2]; exact w32_upd Ws1 (rotw_w 16 (xorw_w (Ws1 d hd) (Ws1 a ha)))
  go_wp2_with fail
  refine wp_region3 (Touch (fun k => k = b) w) v1.heap.size
    [(b, ⟨rowOb .i64 3 n s1, [(13, rowOb .i64 3 n s2)]⟩)]
    [kv (.slice (some ⟨b, 0, none⟩) n cp), kv (.int .i64 (d : Int)), kv (.slice (some ⟨b, 0, none⟩) n cp), kv (.int .i64 (d : Int)), kv (.pointer (some ⟨b, 0 + d, none⟩)), kv (.int .i64 (s1 d)), kv (.slice (some ⟨b, 0, none⟩) n cp), kv (.int .i64 (a : Int)), kv (.pointer (some ⟨b, 0 + a, none⟩)), kv (.int .i64 (s1 a)), kv (.int .i64 (xorw (s1 d) (s1 a))), kv (.int .i64 (rotw (xorw (s1 d) (s1 a)) 16)), kv (.pointer (some ⟨b, 0 + d, none⟩)), .val fun _ => True]
    [.none, .none, .none, .none, .none, .none, .none, .none, .none, .none, .none, .none, .none, .base 0 1]
    [some 23, some 24, some 25, some 26, some 27, some 28, some 29, some 30, some 31, some 32, some 33, some 34, some 35, none]
    [(0, .slice (some ⟨b, 0, none⟩) n cp), (4, .int .i64 (d : Int)), (1, .int .i64 (a : Int))]
    [[], [], [], [], [.slot 2, .slot 3], [.slot 4, .base 0 0], [], [], [.slot 6, .slot 7], [.slot 8, .base 0 0], [.slot 5, .slot 9], [.slot 10], [.slot 0, .slot 1], [.slot 12, .base 0 0, .slot 11]]
    [.base 0 1] [23, 24, 25, 26, 27, 28, 29, 30, 31, 32, 33, 34, 35]
    rfl (by kernel_rfl) ⟨rfl, rfl, rfl, trivial⟩ (Touch.drew hT) (Nat.le_refl _) ⟨⟨RowAt.lt hR, hR⟩, trivial⟩ ⟨trivial, trivial⟩ (touch_S hT.size)
    ⟨
      -- 0
      (fun Q aq ww own hS hBg fr kn => .inl ⟨trivial, fun K hK => wp_value (exec_move rfl fr.1) (hK _ _ ⟨Touch.refl _ _, rfl⟩)⟩),
      -- 1
      (fun Q aq ww own hS hBg fr kn => .inl ⟨trivial, fun K hK => wp_value (exec_move rfl fr.2.1) (hK _ _ ⟨Touch.refl _ _, rfl⟩)⟩),
      -- 2
      (fun Q aq ww own hS hBg fr kn => .inl ⟨trivial, fun K hK => wp_value (exec_move rfl fr.1) (hK _ _ ⟨Touch.refl _ _, rfl⟩)⟩),
      -- 3
      (fun Q aq ww own hS hBg fr kn => .inl ⟨trivial, fun K hK => wp_value (exec_move rfl fr.2.1) (hK _ _ ⟨Touch.refl _ _, rfl⟩)⟩),
      -- 4
      (fun Q aq ww own hS hBg fr kn => .inl ⟨trivial, fun K hK => wp_value (exec_idx rfl Tryz.underlying121 size_int kn.1 kn.2.1 hd) (hK _ _ ⟨Touch.refl _ _, rfl⟩)⟩),
      -- 5
      (fun Q aq ww own hS hBg fr kn => .inl ⟨trivial, fun K hK => wp_value (exec_ld rfl kn.1 (load_int (cell0 kn.2.1 hd))) (hK _ _ ⟨Touch.refl _ _, rfl⟩)⟩),
      -- 6
      (fun Q aq ww own hS hBg fr kn => .inl ⟨trivial, fun K hK => wp_value (exec_move rfl fr.1) (hK _ _ ⟨Touch.refl _ _, rfl⟩)⟩),
      -- 7
      (fun Q aq ww own hS hBg fr kn => .inl ⟨trivial, fun K hK => wp_value (exec_move rfl fr.2.2.1) (hK _ _ ⟨Touch.refl _ _, rfl⟩)⟩),
      -- 8
      (fun Q aq ww own hS hBg fr kn => .inl ⟨trivial, fun K hK => wp_value (exec_idx rfl Tryz.underlying121 size_int kn.1 kn.2.1 ha) (hK _ _ ⟨Touch.refl _ _, rfl⟩)⟩),
      -- 9
      (fun Q aq ww own hS hBg fr kn => .inl ⟨trivial, fun K hK => wp_value (exec_ld rfl kn.1 (load_int (cell0 kn.2.1 ha))) (hK _ _ ⟨Touch.refl _ _, rfl⟩)⟩),
      -- 10
      (fun Q aq ww own hS hBg fr kn => .inl ⟨trivial, fun K hK => wp_value (exec_xor rfl kn.1 kn.2.1 (Ws1 d hd) (Ws1 a ha)) (hK _ _ ⟨Touch.refl _ _, rfl⟩)⟩),
      -- 11
      (fun Q aq ww own hS hBg fr kn => .inl ⟨trivial, fun K hK => stepc enterTurn rfl (args2 kn.1 rfl) (turn_run _ 16 _ (xorw_w (Ws1 d hd) (Ws1 a ha)) (by decide)) (fun w' hb => hK _ _ ⟨touch_below hb, rfl⟩)⟩),
      -- 12
      (fun Q aq ww own hS hBg fr kn => .inl ⟨trivial, fun K hK => wp_value (exec_idx rfl Tryz.underlying121 size_int kn.1 kn.2.1 hd) (hK _ _ ⟨Touch.refl _ _, rfl⟩)⟩),
      -- 13
      (fun Q aq ww own hS hBg fr kn => .inl ⟨trivial, fun K hK => act_cell rfl (ptr0 kn.1) kn.2.2.1 kn.2.1 hd (fun w2 hg ho => hK _ _ ⟨⟨touch_only ho, hs2 ▸ hg⟩, trivial⟩)⟩),
      trivial⟩ ?_
  intro vs1 own v2 hT1 hs1 kn inj
  clear inj
  replace hR : RowAt v2 b .i64 3 n s2 := kn.1
  clear kn hs1
  replace hT := hT1
  clear hT1 own
  simp only [putAll, Act.put, List.setIfInBounds_toArray, List.set_cons_zero, List.set_cons_succ]
  obtain ⟨s3, hs3⟩ : ∃ f, upd s2 c (addw (s2 c) (s2 d)) = f := ⟨_, rfl⟩
  have Ws3 : ∀ i, i < n → W32 (s3 i) := by rw [← hs3]; exact w32_upd Ws2 (addw_w _ _)
  go_wp2_with fail
  refine wp_region3 (Touch (fun k => k = b) w) v2.heap.size
    [(b, ⟨rowOb .i64 3 n s2, [(13, rowOb .i64 3 n s3)]⟩)]
    [kv (.slice (some ⟨b, 0, none⟩) n cp), kv (.int .i64 (c : Int)), kv (.slice (some ⟨b, 0, none⟩) n cp), kv (.int .i64 (c : Int)), kv (.pointer (some ⟨b, 0 + c, none⟩)), kv (.int .i64 (s2 c)), kv (.slice (some ⟨b, 0, none⟩) n cp), kv (.int .i64 (d : Int)), kv (.pointer (some ⟨b, 0 + d, none⟩)), kv (.int .i64 (s2 d)), kv (.int .i64 (s2 c + s2 d)), kv (.int .i64 (addw (s2 c) (s2 d))), kv (.pointer (some ⟨b, 0 + c, none⟩)), .val fun _ => True]
    [.none, .none, .none, .none, .none, .none, .none, .none, .none, .none, .none, .none, .none, .base 0 1]
    [some 36, some 37, some 38, some 39, some 40, some 41, some 42, some 43, some 44, some 45, some 46, some 47, some 48, none]
    [(0, .slice (some ⟨b, 0, none⟩) n cp), (3, .int .i64 (c : Int)), (4, .int .i64 (d : Int))]
    [[], [], [], [], [.slot 2, .slot 3], [.slot 4, .base 0 0], [], [], [.slot 6, .slot 7], [.slot 8, .base 0 0], [.slot 5, .slot 9], [.slot 10], [.slot 0, .slot 1], [.slot 12, .base 0 0, .slot 11]]
    [.base 0 1] [36, 37, 38, 39, 40, 41, 42, 43, 44, 45, 46, 47, 48]
    rfl (by kernel_rfl) ⟨rfl, rfl, rfl, trivial⟩ (Touch.drew hT) (Nat.le_refl _) ⟨⟨RowAt.lt hR, hR⟩, trivial⟩ ⟨trivial, trivial⟩ (touch_S hT.size)
    ⟨
      -- 0
      (fun Q aq ww own hS hBg fr kn => .inl ⟨trivial, fun K hK => wp_value (exec_move rfl fr.1) (hK _ _ ⟨Touch.refl _ _, rfl⟩)⟩),
      -- 1
      (fun Q aq ww own hS hBg fr kn => .inl ⟨trivial, fun K hK => wp_value (exec_move rfl fr.2.1) (hK _ _ ⟨Touch.refl _ _, rfl⟩)⟩),
      -- 2
      (fun Q aq ww own hS hBg fr kn => .inl ⟨trivial, fun K hK => wp_value (exec_move rfl fr.1) (hK _ _ ⟨Touch.refl _ _, rfl⟩)⟩),
      -- 3
      (fun Q aq ww own hS hBg fr kn => .inl ⟨trivial, fun K hK => wp_value (exec_move rfl fr.2.1) (hK _ _ ⟨Touch.refl _ _, rfl⟩)⟩),
      -- 4
      (fun Q aq ww own hS hBg fr kn => .inl ⟨trivial, fun K hK => wp_value (exec_idx rfl Tryz.underlying121 size_int kn.1 kn.2.1 hc) (hK _ _ ⟨Touch.refl _ _, rfl⟩)⟩),
      -- 5
      (fun Q aq ww own hS hBg fr kn => .inl ⟨trivial, fun K hK => wp_value (exec_ld rfl kn.1 (load_int (cell0 kn.2.1 hc))) (hK _ _ ⟨Touch.refl _ _, rfl⟩)⟩),
      -- 6
      (fun Q aq ww own hS hBg fr kn => .inl ⟨trivial, fun K hK => wp_value (exec_move rfl fr.1) (hK _ _ ⟨Touch.refl _ _, rfl⟩)⟩),
      -- 7
      (fun Q aq ww own hS hBg fr kn => .inl ⟨trivial, fun K hK => wp_value (exec_move rfl fr.2.2.1) (hK _ _ ⟨Touch.refl _ _, rfl⟩)⟩),
      -- 8
      (fun Q aq ww own hS hBg fr kn => .inl ⟨trivial, fun K hK => wp_value (exec_idx rfl Tryz.underlying121 size_int kn.1 kn.2.1 hd) (hK _ _ ⟨Touch.refl _ _, rfl⟩)⟩),
      -- 9
      (fun Q aq ww own hS hBg fr kn => .inl ⟨trivial, fun K hK => wp_value (exec_ld rfl kn.1 (load_int (cell0 kn.2.1 hd))) (hK _ _ ⟨Touch.refl _ _, rfl⟩)⟩),
      -- 10
      (fun Q aq ww own hS hBg fr kn => .inl ⟨trivial, fun K hK => wp_value (exec_add rfl kn.1 kn.2.1 (sum_lo (Ws2 c hc) (Ws2 d hd)) (sum_hi (Ws2 c hc) (Ws2 d hd))) (hK _ _ ⟨Touch.refl _ _, rfl⟩)⟩),
      -- 11
      (fun Q aq ww own hS hBg fr kn => .inl ⟨trivial, fun K hK => wp_value (exec_rem rfl kn.1 (sum_nn (Ws2 c hc) (Ws2 d hd)) (sum_hi (Ws2 c hc) (Ws2 d hd))) (hK _ _ ⟨Touch.refl _ _, rfl⟩)⟩),
      -- 12
      (fun Q aq ww own hS hBg fr kn => .inl ⟨trivial, fun K hK => wp_value (exec_idx rfl Tryz.underlying121 size_int kn.1 kn.2.1 hc) (hK _ _ ⟨Touch.refl _ _, rfl⟩)⟩),
      -- 13
      (fun Q aq ww own hS hBg fr kn => .inl ⟨trivial, fun K hK => act_cell rfl (ptr0 kn.1) kn.2.2.1 kn.2.1 hc (fun w2 hg ho => hK _ _ ⟨⟨touch_only ho, hs3 ▸ hg⟩, trivial⟩)⟩),
      trivial⟩ ?_
  intro vs2 own v3 hT2 hs2 kn inj
  clear inj
  replace hR : RowAt v3 b .i64 3 n s3 := kn.1
  clear kn hs2
  replace hT := hT2
  clear hT2 own
  simp only [putAll, Act.put, List.setIfInBounds_toArray, List.set_cons_zero, List.set_cons_succ]
  obtain ⟨s4, hs4⟩ : ∃ f, upd s3 y (rotw (xorw (s3 y) (s3 c)) 12) = f := ⟨_, rfl⟩
  have Ws4 : ∀ i, i < n → W32 (s4 i) := by rw [← hs4]; exact w32_upd Ws3 (rotw_w 12 (xorw_w (Ws3 y hy) (Ws3 c hc)))
  go_wp2_with fail
  refine wp_region3 (Touch (fun k => k = b) w) v3.heap.size
    [(b, ⟨rowOb .i64 3 n s3, [(13, rowOb .i64 3 n s4)]⟩)]
    [kv (.slice (some ⟨b, 0, none⟩) n cp), kv (.int .i64 (y : Int)), kv (.slice (some ⟨b, 0, none⟩) n cp), kv (.int .i64 (y : Int)), kv (.pointer (some ⟨b, 0 + y, none⟩)), kv (.int .i64 (s3 y)), kv (.slice (some ⟨b, 0, none⟩) n cp), kv (.int .i64 (c : Int)), kv (.pointer (some ⟨b, 0 + c, none⟩)), kv (.int .i64 (s3 c)), kv (.int .i64 (xorw (s3 y) (s3 c))), kv (.int .i64 (rotw (xorw (s3 y) (s3 c)) 12)), kv (.pointer (some ⟨b, 0 + y, none⟩)), .val fun _ => True]
    [.none, .none, .none, .none, .none, .none, .none, .none, .none, .none, .none, .none, .none, .base 0 1]
    [some 49, some 50, some 51, some 52, some 53, some 54, some 55, some 56, some 57, some 58, some 59, some 60, some 61, none]
    [(0, .slice (some ⟨b, 0, none⟩) n cp), (2, .int .i64 (y : Int)), (3, .int .i64 (c : Int))]
    [[], [], [], [], [.slot 2, .slot 3], [.slot 4, .base 0 0], [], [], [.slot 6, .slot 7], [.slot 8, .base 0 0], [.slot 5, .slot 9], [.slot 10], [.slot 0, .slot 1], [.slot 12, .base 0 0, .slot 11]]
    [.base 0 1] [49, 50, 51, 52, 53, 54, 55, 56, 57, 58, 59, 60, 61]
    rfl (by kernel_rfl) ⟨rfl, rfl, rfl, trivial⟩ (Touch.drew hT) (Nat.le_refl _) ⟨⟨RowAt.lt hR, hR⟩, trivial⟩ ⟨trivial, trivial⟩ (touch_S hT.size)
    ⟨
      -- 0
      (fun Q aq ww own hS hBg fr kn => .inl ⟨trivial, fun K hK => wp_value (exec_move rfl fr.1) (hK _ _ ⟨Touch.refl _ _, rfl⟩)⟩),
      -- 1
      (fun Q aq ww own hS hBg fr kn => .inl ⟨trivial, fun K hK => wp_value (exec_move rfl fr.2.1) (hK _ _ ⟨Touch.refl _ _, rfl⟩)⟩),
      -- 2
      (fun Q aq ww own hS hBg fr kn => .inl ⟨trivial, fun K hK => wp_value (exec_move rfl fr.1) (hK _ _ ⟨Touch.refl _ _, rfl⟩)⟩),
      -- 3
      (fun Q aq ww own hS hBg fr kn => .inl ⟨trivial, fun K hK => wp_value (exec_move rfl fr.2.1) (hK _ _ ⟨Touch.refl _ _, rfl⟩)⟩),
      -- 4
      (fun Q aq ww own hS hBg fr kn => .inl ⟨trivial, fun K hK => wp_value (exec_idx rfl Tryz.underlying121 size_int kn.1 kn.2.1 hy) (hK _ _ ⟨Touch.refl _ _, rfl⟩)⟩),
      -- 5
      (fun Q aq ww own hS hBg fr kn => .inl ⟨trivial, fun K hK => wp_value (exec_ld rfl kn.1 (load_int (cell0 kn.2.1 hy))) (hK _ _ ⟨Touch.refl _ _, rfl⟩)⟩),
      -- 6
      (fun Q aq ww own hS hBg fr kn => .inl ⟨trivial, fun K hK => wp_value (exec_move rfl fr.1) (hK _ _ ⟨Touch.refl _ _, rfl⟩)⟩),
      -- 7
      (fun Q aq ww own hS hBg fr kn => .inl ⟨trivial, fun K hK => wp_value (exec_move rfl fr.2.2.1) (hK _ _ ⟨Touch.refl _ _, rfl⟩)⟩),
      -- 8
      (fun Q aq ww own hS hBg fr kn => .inl ⟨trivial, fun K hK => wp_value (exec_idx rfl Tryz.underlying121 size_int kn.1 kn.2.1 hc) (hK _ _ ⟨Touch.refl _ _, rfl⟩)⟩),
      -- 9
      (fun Q aq ww own hS hBg fr kn => .inl ⟨trivial, fun K hK => wp_value (exec_ld rfl kn.1 (load_int (cell0 kn.2.1 hc))) (hK _ _ ⟨Touch.refl _ _, rfl⟩)⟩),
      -- 10
      (fun Q aq ww own hS hBg fr kn => .inl ⟨trivial, fun K hK => wp_value (exec_xor rfl kn.1 kn.2.1 (Ws3 y hy) (Ws3 c hc)) (hK _ _ ⟨Touch.refl _ _, rfl⟩)⟩),
      -- 11
      (fun Q aq ww own hS hBg fr kn => .inl ⟨trivial, fun K hK => stepc enterTurn rfl (args2 kn.1 rfl) (turn_run _ 12 _ (xorw_w (Ws3 y hy) (Ws3 c hc)) (by decide)) (fun w' hb => hK _ _ ⟨touch_below hb, rfl⟩)⟩),
      -- 12
      (fun Q aq ww own hS hBg fr kn => .inl ⟨trivial, fun K hK => wp_value (exec_idx rfl Tryz.underlying121 size_int kn.1 kn.2.1 hy) (hK _ _ ⟨Touch.refl _ _, rfl⟩)⟩),
      -- 13
      (fun Q aq ww own hS hBg fr kn => .inl ⟨trivial, fun K hK => act_cell rfl (ptr0 kn.1) kn.2.2.1 kn.2.1 hy (fun w2 hg ho => hK _ _ ⟨⟨touch_only ho, hs4 ▸ hg⟩, trivial⟩)⟩),
      trivial⟩ ?_
  intro vs3 own v4 hT3 hs3 kn inj
  clear inj
  replace hR : RowAt v4 b .i64 3 n s4 := kn.1
  clear kn hs3
  replace hT := hT3
  clear hT3 own
  simp only [putAll, Act.put, List.setIfInBounds_toArray, List.set_cons_zero, List.set_cons_succ]
  obtain ⟨s5, hs5⟩ : ∃ f, upd s4 a (addw (s4 a) (s4 y)) = f := ⟨_, rfl⟩
  have Ws5 : ∀ i, i < n → W32 (s5 i) := by rw [← hs5]; exact w32_upd Ws4 (addw_w _ _)
  go_wp2_with fail
  refine wp_region3 (Touch (fun k => k = b) w) v4.heap.size
    [(b, ⟨rowOb .i64 3 n s4, [(13, rowOb .i64 3 n s5)]⟩)]
    [kv (.slice (some ⟨b, 0, none⟩) n cp), kv (.int .i64 (a : Int)), kv (.slice (some ⟨b, 0, none⟩) n cp), kv (.int .i64 (a : Int)), kv (.pointer (some ⟨b, 0 + a, none⟩)), kv (.int .i64 (s4 a)), kv (.slice (some ⟨b, 0, none⟩) n cp), kv (.int .i64 (y : Int)), kv (.pointer (some ⟨b, 0 + y, none⟩)), kv (.int .i64 (s4 y)), kv (.int .i64 (s4 a + s4 y)), kv (.int .i64 (addw (s4 a) (s4 y))), kv (.pointer (some ⟨b, 0 + a, none⟩)), .val fun _ => True]
    [.none, .none, .none, .none, .none, .none, .none, .none, .none, .none, .none, .none, .none, .base 0 1]
    [some 62, some 63, some 64, some 65, some 66, some 67, some 68, some 69, some 70, some 71, some 72, some 73, some 74, none]
    [(0, .slice (some ⟨b, 0, none⟩) n cp), (1, .int .i64 (a : Int)), (2, .int .i64 (y : Int))]
    [[], [], [], [], [.slot 2, .slot 3], [.slot 4, .base 0 0], [], [], [.slot 6, .slot 7], [.slot 8, .base 0 0], [.slot 5, .slot 9], [.slot 10], [.slot 0, .slot 1], [.slot 12, .base 0 0, .slot 11]]
    [.base 0 1] [62, 63, 64, 65, 66, 67, 68, 69, 70, 71, 72, 73, 74]
    rfl (by kernel_rfl) ⟨rfl, rfl, rfl, trivial⟩ (Touch.drew hT) (Nat.le_refl _) ⟨⟨RowAt.lt hR, hR⟩, trivial⟩ ⟨trivial, trivial⟩ (touch_S hT.size)
    ⟨
      -- 0
      (fun Q aq ww own hS hBg fr kn => .inl ⟨trivial, fun K hK => wp_value (exec_move rfl fr.1) (hK _ _ ⟨Touch.refl _ _, rfl⟩)⟩),
      -- 1
      (fun Q aq ww own hS hBg fr kn => .inl ⟨trivial, fun K hK => wp_value (exec_move rfl fr.2.1) (hK _ _ ⟨Touch.refl _ _, rfl⟩)⟩),
      -- 2
      (fun Q aq ww own hS hBg fr kn => .inl ⟨trivial, fun K hK => wp_value (exec_move rfl fr.1) (hK _ _ ⟨Touch.refl _ _, rfl⟩)⟩),
      -- 3
      (fun Q aq ww own hS hBg fr kn => .inl ⟨trivial, fun K hK => wp_value (exec_move rfl fr.2.1) (hK _ _ ⟨Touch.refl _ _, rfl⟩)⟩),
      -- 4
      (fun Q aq ww own hS hBg fr kn => .inl ⟨trivial, fun K hK => wp_value (exec_idx rfl Tryz.underlying121 size_int kn.1 kn.2.1 ha) (hK _ _ ⟨Touch.refl _ _, rfl⟩)⟩),
      -- 5
      (fun Q aq ww own hS hBg fr kn => .inl ⟨trivial, fun K hK => wp_value (exec_ld rfl kn.1 (load_int (cell0 kn.2.1 ha))) (hK _ _ ⟨Touch.refl _ _, rfl⟩)⟩),
      -- 6
      (fun Q aq ww own hS hBg fr kn => .inl ⟨trivial, fun K hK => wp_value (exec_move rfl fr.1) (hK _ _ ⟨Touch.refl _ _, rfl⟩)⟩),
      -- 7
      (fun Q aq ww own hS hBg fr kn => .inl ⟨trivial, fun K hK => wp_value (exec_move rfl fr.2.2.1) (hK _ _ ⟨Touch.refl _ _, rfl⟩)⟩),
      -- 8
      (fun Q aq ww own hS hBg fr kn => .inl ⟨trivial, fun K hK => wp_value (exec_idx rfl Tryz.underlying121 size_int kn.1 kn.2.1 hy) (hK _ _ ⟨Touch.refl _ _, rfl⟩)⟩),
      -- 9
      (fun Q aq ww own hS hBg fr kn => .inl ⟨trivial, fun K hK => wp_value (exec_ld rfl kn.1 (load_int (cell0 kn.2.1 hy))) (hK _ _ ⟨Touch.refl _ _, rfl⟩)⟩),
      -- 10
      (fun Q aq ww own hS hBg fr kn => .inl ⟨trivial, fun K hK => wp_value (exec_add rfl kn.1 kn.2.1 (sum_lo (Ws4 a ha) (Ws4 y hy)) (sum_hi (Ws4 a ha) (Ws4 y hy))) (hK _ _ ⟨Touch.refl _ _, rfl⟩)⟩),
      -- 11
      (fun Q aq ww own hS hBg fr kn => .inl ⟨trivial, fun K hK => wp_value (exec_rem rfl kn.1 (sum_nn (Ws4 a ha) (Ws4 y hy)) (sum_hi (Ws4 a ha) (Ws4 y hy))) (hK _ _ ⟨Touch.refl _ _, rfl⟩)⟩),
      -- 12
      (fun Q aq ww own hS hBg fr kn => .inl ⟨trivial, fun K hK => wp_value (exec_idx rfl Tryz.underlying121 size_int kn.1 kn.2.1 ha) (hK _ _ ⟨Touch.refl _ _, rfl⟩)⟩),
      -- 13
      (fun Q aq ww own hS hBg fr kn => .inl ⟨trivial, fun K hK => act_cell rfl (ptr0 kn.1) kn.2.2.1 kn.2.1 ha (fun w2 hg ho => hK _ _ ⟨⟨touch_only ho, hs5 ▸ hg⟩, trivial⟩)⟩),
      trivial⟩ ?_
  intro vs4 own v5 hT4 hs4 kn inj
  clear inj
  replace hR : RowAt v5 b .i64 3 n s5 := kn.1
  clear kn hs4
  replace hT := hT4
  clear hT4 own
  simp only [putAll, Act.put, List.setIfInBounds_toArray, List.set_cons_zero, List.set_cons_succ]
  obtain ⟨s6, hs6⟩ : ∃ f, upd s5 d (rotw (xorw (s5 d) (s5 a)) 8) = f := ⟨_, rfl⟩
  have Ws6 : ∀ i, i < n → W32 (s6 i) := by rw [← hs6]; exact w32_upd Ws5 (rotw_w 8 (xorw_w (Ws5 d hd) (Ws5 a ha)))
  go_wp2_with fail
  refine wp_region3 (Touch (fun k => k = b) w) v5.heap.size
    [(b, ⟨rowOb .i64 3 n s5, [(13, rowOb .i64 3 n s6)]⟩)]
    [kv (.slice (some ⟨b, 0, none⟩) n cp), kv (.int .i64 (d : Int)), kv (.slice (some ⟨b, 0, none⟩) n cp), kv (.int .i64 (d : Int)), kv (.pointer (some ⟨b, 0 + d, none⟩)), kv (.int .i64 (s5 d)), kv (.slice (some ⟨b, 0, none⟩) n cp), kv (.int .i64 (a : Int)), kv (.pointer (some ⟨b, 0 + a, none⟩)), kv (.int .i64 (s5 a)), kv (.int .i64 (xorw (s5 d) (s5 a))), kv (.int .i64 (rotw (xorw (s5 d) (s5 a)) 8)), kv (.pointer (some ⟨b, 0 + d, none⟩)), .val fun _ => True]
    [.none, .none, .none, .none, .none, .none, .none, .none, .none, .none, .none, .none, .none, .base 0 1]
    [some 75, some 76, some 77, some 78, some 79, some 80, some 81, some 82, some 83, some 84, some 85, some 86, some 87, none]
    [(0, .slice (some ⟨b, 0, none⟩) n cp), (4, .int .i64 (d : Int)), (1, .int .i64 (a : Int))]
    [[], [], [], [], [.slot 2, .slot 3], [.slot 4, .base 0 0], [], [], [.slot 6, .slot 7], [.slot 8, .base 0 0], [.slot 5, .slot 9], [.slot 10], [.slot 0, .slot 1], [.slot 12, .base 0 0, .slot 11]]
    [.base 0 1] [75, 76, 77, 78, 79, 80, 81, 82, 83, 84, 85, 86, 87]
    rfl (by kernel_rfl) ⟨rfl, rfl, rfl, trivial⟩ (Touch.drew hT) (Nat.le_refl _) ⟨⟨RowAt.lt hR, hR⟩, trivial⟩ ⟨trivial, trivial⟩ (touch_S hT.size)
    ⟨
      -- 0
      (fun Q aq ww own hS hBg fr kn => .inl ⟨trivial, fun K hK => wp_value (exec_move rfl fr.1) (hK _ _ ⟨Touch.refl _ _, rfl⟩)⟩),
      -- 1
      (fun Q aq ww own hS hBg fr kn => .inl ⟨trivial, fun K hK => wp_value (exec_move rfl fr.2.1) (hK _ _ ⟨Touch.refl _ _, rfl⟩)⟩),
      -- 2
      (fun Q aq ww own hS hBg fr kn => .inl ⟨trivial, fun K hK => wp_value (exec_move rfl fr.1) (hK _ _ ⟨Touch.refl _ _, rfl⟩)⟩),
      -- 3
      (fun Q aq ww own hS hBg fr kn => .inl ⟨trivial, fun K hK => wp_value (exec_move rfl fr.2.1) (hK _ _ ⟨Touch.refl _ _, rfl⟩)⟩),
      -- 4
      (fun Q aq ww own hS hBg fr kn => .inl ⟨trivial, fun K hK => wp_value (exec_idx rfl Tryz.underlying121 size_int kn.1 kn.2.1 hd) (hK _ _ ⟨Touch.refl _ _, rfl⟩)⟩),
      -- 5
      (fun Q aq ww own hS hBg fr kn => .inl ⟨trivial, fun K hK => wp_value (exec_ld rfl kn.1 (load_int (cell0 kn.2.1 hd))) (hK _ _ ⟨Touch.refl _ _, rfl⟩)⟩),
      -- 6
      (fun Q aq ww own hS hBg fr kn => .inl ⟨trivial, fun K hK => wp_value (exec_move rfl fr.1) (hK _ _ ⟨Touch.refl _ _, rfl⟩)⟩),
      -- 7
      (fun Q aq ww own hS hBg fr kn => .inl ⟨trivial, fun K hK => wp_value (exec_move rfl fr.2.2.1) (hK _ _ ⟨Touch.refl _ _, rfl⟩)⟩),
      -- 8
      (fun Q aq ww own hS hBg fr kn => .inl ⟨trivial, fun K hK => wp_value (exec_idx rfl Tryz.underlying121 size_int kn.1 kn.2.1 ha) (hK _ _ ⟨Touch.refl _ _, rfl⟩)⟩),
      -- 9
      (fun Q aq ww own hS hBg fr kn => .inl ⟨trivial, fun K hK => wp_value (exec_ld rfl kn.1 (load_int (cell0 kn.2.1 ha))) (hK _ _ ⟨Touch.refl _ _, rfl⟩)⟩),
      -- 10
      (fun Q aq ww own hS hBg fr kn => .inl ⟨trivial, fun K hK => wp_value (exec_xor rfl kn.1 kn.2.1 (Ws5 d hd) (Ws5 a ha)) (hK _ _ ⟨Touch.refl _ _, rfl⟩)⟩),
      -- 11
      (fun Q aq ww own hS hBg fr kn => .inl ⟨trivial, fun K hK => stepc enterTurn rfl (args2 kn.1 rfl) (turn_run _ 8 _ (xorw_w (Ws5 d hd) (Ws5 a ha)) (by decide)) (fun w' hb => hK _ _ ⟨touch_below hb, rfl⟩)⟩),
      -- 12
      (fun Q aq ww own hS hBg fr kn => .inl ⟨trivial, fun K hK => wp_value (exec_idx rfl Tryz.underlying121 size_int kn.1 kn.2.1 hd) (hK _ _ ⟨Touch.refl _ _, rfl⟩)⟩),
      -- 13
      (fun Q aq ww own hS hBg fr kn => .inl ⟨trivial, fun K hK => act_cell rfl (ptr0 kn.1) kn.2.2.1 kn.2.1 hd (fun w2 hg ho => hK _ _ ⟨⟨touch_only ho, hs6 ▸ hg⟩, trivial⟩)⟩),
      trivial⟩ ?_
  intro vs5 own v6 hT5 hs5 kn inj
  clear inj
  replace hR : RowAt v6 b .i64 3 n s6 := kn.1
  clear kn hs5
  replace hT := hT5
  clear hT5 own
  simp only [putAll, Act.put, List.setIfInBounds_toArray, List.set_cons_zero, List.set_cons_succ]
  obtain ⟨s7, hs7⟩ : ∃ f, upd s6 c (addw (s6 c) (s6 d)) = f := ⟨_, rfl⟩
  have Ws7 : ∀ i, i < n → W32 (s7 i) := by rw [← hs7]; exact w32_upd Ws6 (addw_w _ _)
  go_wp2_with fail
  refine wp_region3 (Touch (fun k => k = b) w) v6.heap.size
    [(b, ⟨rowOb .i64 3 n s6, [(13, rowOb .i64 3 n s7)]⟩)]
    [kv (.slice (some ⟨b, 0, none⟩) n cp), kv (.int .i64 (c : Int)), kv (.slice (some ⟨b, 0, none⟩) n cp), kv (.int .i64 (c : Int)), kv (.pointer (some ⟨b, 0 + c, none⟩)), kv (.int .i64 (s6 c)), kv (.slice (some ⟨b, 0, none⟩) n cp), kv (.int .i64 (d : Int)), kv (.pointer (some ⟨b, 0 + d, none⟩)), kv (.int .i64 (s6 d)), kv (.int .i64 (s6 c + s6 d)), kv (.int .i64 (addw (s6 c) (s6 d))), kv (.pointer (some ⟨b, 0 + c, none⟩)), .val fun _ => True]
    [.none, .none, .none, .none, .none, .none, .none, .none, .none, .none, .none, .none, .none, .base 0 1]
    [some 88, some 89, some 90, some 91, some 92, some 93, some 94, some 95, some 96, some 97, some 98, some 99, some 100, none]
    [(0, .slice (some ⟨b, 0, none⟩) n cp), (3, .int .i64 (c : Int)), (4, .int .i64 (d : Int))]
    [[], [], [], [], [.slot 2, .slot 3], [.slot 4, .base 0 0], [], [], [.slot 6, .slot 7], [.slot 8, .base 0 0], [.slot 5, .slot 9], [.slot 10], [.slot 0, .slot 1], [.slot 12, .base 0 0, .slot 11]]
    [.base 0 1] [88, 89, 90, 91, 92, 93, 94, 95, 96, 97, 98, 99, 100]
    rfl (by kernel_rfl) ⟨rfl, rfl, rfl, trivial⟩ (Touch.drew hT) (Nat.le_refl _) ⟨⟨RowAt.lt hR, hR⟩, trivial⟩ ⟨trivial, trivial⟩ (touch_S hT.size)
    ⟨
      -- 0
      (fun Q aq ww own hS hBg fr kn => .inl ⟨trivial, fun K hK => wp_value (exec_move rfl fr.1) (hK _ _ ⟨Touch.refl _ _, rfl⟩)⟩),
      -- 1
      (fun Q aq ww own hS hBg fr kn => .inl ⟨trivial, fun K hK => wp_value (exec_move rfl fr.2.1) (hK _ _ ⟨Touch.refl _ _, rfl⟩)⟩),
      -- 2
      (fun Q aq ww own hS hBg fr kn => .inl ⟨trivial, fun K hK => wp_value (exec_move rfl fr.1) (hK _ _ ⟨Touch.refl _ _, rfl⟩)⟩),
      -- 3
      (fun Q aq ww own hS hBg fr kn => .inl ⟨trivial, fun K hK => wp_value (exec_move rfl fr.2.1) (hK _ _ ⟨Touch.refl _ _, rfl⟩)⟩),
      -- 4
      (fun Q aq ww own hS hBg fr kn => .inl ⟨trivial, fun K hK => wp_value (exec_idx rfl Tryz.underlying121 size_int kn.1 kn.2.1 hc) (hK _ _ ⟨Touch.refl _ _, rfl⟩)⟩),
      -- 5
      (fun Q aq ww own hS hBg fr kn => .inl ⟨trivial, fun K hK => wp_value (exec_ld rfl kn.1 (load_int (cell0 kn.2.1 hc))) (hK _ _ ⟨Touch.refl _ _, rfl⟩)⟩),
      -- 6
      (fun Q aq ww own hS hBg fr kn => .inl ⟨trivial, fun K hK => wp_value (exec_move rfl fr.1) (hK _ _ ⟨Touch.refl _ _, rfl⟩)⟩),
      -- 7
      (fun Q aq ww own hS hBg fr kn => .inl ⟨trivial, fun K hK => wp_value (exec_move rfl fr.2.2.1) (hK _ _ ⟨Touch.refl _ _, rfl⟩)⟩),
      -- 8
      (fun Q aq ww own hS hBg fr kn => .inl ⟨trivial, fun K hK => wp_value (exec_idx rfl Tryz.underlying121 size_int kn.1 kn.2.1 hd) (hK _ _ ⟨Touch.refl _ _, rfl⟩)⟩),
      -- 9
      (fun Q aq ww own hS hBg fr kn => .inl ⟨trivial, fun K hK => wp_value (exec_ld rfl kn.1 (load_int (cell0 kn.2.1 hd))) (hK _ _ ⟨Touch.refl _ _, rfl⟩)⟩),
      -- 10
      (fun Q aq ww own hS hBg fr kn => .inl ⟨trivial, fun K hK => wp_value (exec_add rfl kn.1 kn.2.1 (sum_lo (Ws6 c hc) (Ws6 d hd)) (sum_hi (Ws6 c hc) (Ws6 d hd))) (hK _ _ ⟨Touch.refl _ _, rfl⟩)⟩),
      -- 11
      (fun Q aq ww own hS hBg fr kn => .inl ⟨trivial, fun K hK => wp_value (exec_rem rfl kn.1 (sum_nn (Ws6 c hc) (Ws6 d hd)) (sum_hi (Ws6 c hc) (Ws6 d hd))) (hK _ _ ⟨Touch.refl _ _, rfl⟩)⟩),
      -- 12
      (fun Q aq ww own hS hBg fr kn => .inl ⟨trivial, fun K hK => wp_value (exec_idx rfl Tryz.underlying121 size_int kn.1 kn.2.1 hc) (hK _ _ ⟨Touch.refl _ _, rfl⟩)⟩),
      -- 13
      (fun Q aq ww own hS hBg fr kn => .inl ⟨trivial, fun K hK => act_cell rfl (ptr0 kn.1) kn.2.2.1 kn.2.1 hc (fun w2 hg ho => hK _ _ ⟨⟨touch_only ho, hs7 ▸ hg⟩, trivial⟩)⟩),
      trivial⟩ ?_
  intro vs6 own v7 hT6 hs6 kn inj
  clear inj
  replace hR : RowAt v7 b .i64 3 n s7 := kn.1
  clear kn hs6
  replace hT := hT6
  clear hT6 own
  simp only [putAll, Act.put, List.setIfInBounds_toArray, List.set_cons_zero, List.set_cons_succ]
  obtain ⟨s8, hs8⟩ : ∃ f, upd s7 y (rotw (xorw (s7 y) (s7 c)) 7) = f := ⟨_, rfl⟩
  have Ws8 : ∀ i, i < n → W32 (s8 i) := by rw [← hs8]; exact w32_upd Ws7 (rotw_w 7 (xorw_w (Ws7 y hy) (Ws7 c hc)))
  go_wp2_with fail
  refine wp_region3 (Touch (fun k => k = b) w) v7.heap.size
    [(b, ⟨rowOb .i64 3 n s7, [(13, rowOb .i64 3 n s8)]⟩)]
    [kv (.slice (some ⟨b, 0, none⟩) n cp), kv (.int .i64 (y : Int)), kv (.slice (some ⟨b, 0, none⟩) n cp), kv (.int .i64 (y : Int)), kv (.pointer (some ⟨b, 0 + y, none⟩)), kv (.int .i64 (s7 y)), kv (.slice (some ⟨b, 0, none⟩) n cp), kv (.int .i64 (c : Int)), kv (.pointer (some ⟨b, 0 + c, none⟩)), kv (.int .i64 (s7 c)), kv (.int .i64 (xorw (s7 y) (s7 c))), kv (.int .i64 (rotw (xorw (s7 y) (s7 c)) 7)), kv (.pointer (some ⟨b, 0 + y, none⟩)), .val fun _ => True]
    [.none, .none, .none, .none, .none, .none, .none, .none, .none, .none, .none, .none, .none, .base 0 1]
    [some 101, some 102, some 103, some 104, some 105, some 106, some 107, some 108, some 109, some 110, some 111, some 112, some 113, none]
    [(0, .slice (some ⟨b, 0, none⟩) n cp), (2, .int .i64 (y : Int)), (3, .int .i64 (c : Int))]
    [[], [], [], [], [.slot 2, .slot 3], [.slot 4, .base 0 0], [], [], [.slot 6, .slot 7], [.slot 8, .base 0 0], [.slot 5, .slot 9], [.slot 10], [.slot 0, .slot 1], [.slot 12, .base 0 0, .slot 11]]
    [.base 0 1] [101, 102, 103, 104, 105, 106, 107, 108, 109, 110, 111, 112, 113]
    rfl (by kernel_rfl) ⟨rfl, rfl, rfl, trivial⟩ (Touch.drew hT) (Nat.le_refl _) ⟨⟨RowAt.lt hR, hR⟩, trivial⟩ ⟨trivial, trivial⟩ (touch_S hT.size)
    ⟨
      -- 0
      (fun Q aq ww own hS hBg fr kn => .inl ⟨trivial, fun K hK => wp_value (exec_move rfl fr.1) (hK _ _ ⟨Touch.refl _ _, rfl⟩)⟩),
      -- 1
      (fun Q aq ww own hS hBg fr kn => .inl ⟨trivial, fun K hK => wp_value (exec_move rfl fr.2.1) (hK _ _ ⟨Touch.refl _ _, rfl⟩)⟩),
      -- 2
      (fun Q aq ww own hS hBg fr kn => .inl ⟨trivial, fun K hK => wp_value (exec_move rfl fr.1) (hK _ _ ⟨Touch.refl _ _, rfl⟩)⟩),
      -- 3
      (fun Q aq ww own hS hBg fr kn => .inl ⟨trivial, fun K hK => wp_value (exec_move rfl fr.2.1) (hK _ _ ⟨Touch.refl _ _, rfl⟩)⟩),
      -- 4
      (fun Q aq ww own hS hBg fr kn => .inl ⟨trivial, fun K hK => wp_value (exec_idx rfl Tryz.underlying121 size_int kn.1 kn.2.1 hy) (hK _ _ ⟨Touch.refl _ _, rfl⟩)⟩),
      -- 5
      (fun Q aq ww own hS hBg fr kn => .inl ⟨trivial, fun K hK => wp_value (exec_ld rfl kn.1 (load_int (cell0 kn.2.1 hy))) (hK _ _ ⟨Touch.refl _ _, rfl⟩)⟩),
      -- 6
      (fun Q aq ww own hS hBg fr kn => .inl ⟨trivial, fun K hK => wp_value (exec_move rfl fr.1) (hK _ _ ⟨Touch.refl _ _, rfl⟩)⟩),
      -- 7
      (fun Q aq ww own hS hBg fr kn => .inl ⟨trivial, fun K hK => wp_value (exec_move rfl fr.2.2.1) (hK _ _ ⟨Touch.refl _ _, rfl⟩)⟩),
      -- 8
      (fun Q aq ww own hS hBg fr kn => .inl ⟨trivial, fun K hK => wp_value (exec_idx rfl Tryz.underlying121 size_int kn.1 kn.2.1 hc) (hK _ _ ⟨Touch.refl _ _, rfl⟩)⟩),
      -- 9
      (fun Q aq ww own hS hBg fr kn => .inl ⟨trivial, fun K hK => wp_value (exec_ld rfl kn.1 (load_int (cell0 kn.2.1 hc))) (hK _ _ ⟨Touch.refl _ _, rfl⟩)⟩),
      -- 10
      (fun Q aq ww own hS hBg fr kn => .inl ⟨trivial, fun K hK => wp_value (exec_xor rfl kn.1 kn.2.1 (Ws7 y hy) (Ws7 c hc)) (hK _ _ ⟨Touch.refl _ _, rfl⟩)⟩),
      -- 11
      (fun Q aq ww own hS hBg fr kn => .inl ⟨trivial, fun K hK => stepc enterTurn rfl (args2 kn.1 rfl) (turn_run _ 7 _ (xorw_w (Ws7 y hy) (Ws7 c hc)) (by decide)) (fun w' hb => hK _ _ ⟨touch_below hb, rfl⟩)⟩),
      -- 12
      (fun Q aq ww own hS hBg fr kn => .inl ⟨trivial, fun K hK => wp_value (exec_idx rfl Tryz.underlying121 size_int kn.1 kn.2.1 hy) (hK _ _ ⟨Touch.refl _ _, rfl⟩)⟩),
      -- 13
      (fun Q aq ww own hS hBg fr kn => .inl ⟨trivial, fun K hK => act_cell rfl (ptr0 kn.1) kn.2.2.1 kn.2.1 hy (fun w2 hg ho => hK _ _ ⟨⟨touch_only ho, hs8 ▸ hg⟩, trivial⟩)⟩),
      trivial⟩ ?_
  intro vs7 own v8 hT7 hs7 kn inj
  clear inj
  replace hR : RowAt v8 b .i64 3 n s8 := kn.1
  clear kn hs7
  replace hT := hT7
  clear hT7 own
  simp only [putAll, Act.put, List.setIfInBounds_toArray, List.set_cons_zero, List.set_cons_succ]
  go_wp2_with fail
  rw [qrow_chain s0 a y c d hab hac had hbc hbd hcd hs1 hs2 hs3 hs4 hs5 hs6 hs7 hs8] at hR
  refine bodyPost_end (results_none rfl _ _ _) rfl ?_
  exact ⟨rfl, hR, hT⟩
theorem qrow_w {n : Nat} {s : Nat → Int} {a b c d : Nat} (h : ∀ i, i < n → W32 (s i)) (ha : a < n) (hb : b < n) (hc : c < n) (hd : d < n) : ∀ i, i < n → W32 (qrow s a b c d i) := by
  have hq : (quart ⟨s a, s b, s c, s d⟩).ok := quart_ok ⟨h a ha, h b hb, h c hc, h d hd⟩
  exact w32_upd (w32_upd (w32_upd (w32_upd h hq.a) hq.b) hq.c) hq.d
end Go.Proofs.YtbkbcfimpaolmaaGreat
/-
  Own text. The walk of the law ChachaQuarters.
-/
namespace Go.Proofs.YtbkbcfimpaolmaaGreat
open Go.RowKit Go.Proofs
set_option maxRecDepth 100000

end Go.Proofs.YtbkbcfimpaolmaaGreat
/-
  Own text. Words of bytes: what wordAt and putWord of package chacha give.
-/
namespace Go.Proofs.YtbkbcfimpaolmaaGreat
open Go.RowKit Go.Proofs
set_option maxRecDepth 100000
/-- Word i of some bytes, the lowest byte first. -/
def wrd (s : Nat → Int) (i : Nat) : Int := s (4 * i) + 256 * s (4 * i + 1) + 65536 * s (4 * i + 2) + 16777216 * s (4 * i + 3)
theorem wrd_w {n : Nat} {s : Nat → Int} {i : Nat} (h : Byts n s) (hi : 4 * i + 4 ≤ n) : W32 (wrd s i) := by
  have h0 := h (4 * i) (by omega)
  have h1 := h (4 * i + 1) (by omega)
  have h2 := h (4 * i + 2) (by omega)
  have h3 := h (4 * i + 3) (by omega)
  unfold wrd W32
  omega
theorem or4 (x0 x1 x2 x3 : Int) (h0 : 0 ≤ x0 ∧ x0 < 256) (h1 : 0 ≤ x1 ∧ x1 < 256) (h2 : 0 ≤ x2 ∧ x2 < 256) (h3 : 0 ≤ x3 ∧ x3 < 256) :
    bits .or .u32 (bits .or .u32 (bits .or .u32 x0 (x1 * 256)) (x2 * 65536)) (x3 * 16777216) = x0 + 256 * x1 + 65536 * x2 + 16777216 * x3 := by
  rw [or_add x0 x1 8 256 rfl (by omega) (by omega) (by omega) (by omega) (by omega), or_add _ x2 16 65536 rfl (by omega) (by omega) (by omega) (by omega) (by omega), or_add _ x3 24 16777216 rfl (by omega) (by omega) (by omega) (by omega) (by omega)]
  omega
set_option maxHeartbeats 1000000 in
theorem wordAt_run {t : TypeId} (b n cp : Nat) (s : Nat → Int) (i : Nat) (w : World) (hR : RowAt w b .u8 t n s) (hs : Byts n s) (hi : 4 * i + 4 ≤ n) (hn : n ≤ cp) (hc : cp ≤ 1000000) :
    Calls Tryz.prog 90 #[.slice (some ⟨b, 0, none⟩) n cp, .int .i64 (i : Int)] w fun e w' => e = .returned (.int .u32 (wrd s i)) ∧ Below w.heap.size w w' := by
  have c0 := hR.cell (4 * i) (by omega)
  have c1 := hR.cell (4 * i + 1) (by omega)
  have c2 := hR.cell (4 * i + 2) (by omega)
  have c3 := hR.cell (4 * i + 3) (by omega)
  have h0 := hs (4 * i) (by omega)
  have h1 := hs (4 * i + 1) (by omega)
  have h2 := hs (4 * i + 2) (by omega)
  have h3 := hs (4 * i + 3) (by omega)
  have HO := Hid.mk (or4 _ _ _ _ h0 h1 h2 h3)
  go_enter Tryz.func90, Tryz.ntmps90
  go_wp2
  go_region
  go_wp2
  go_ret
  exact ⟨congrArg (fun n => Ending.returned (Value.int .u32 n)) HO.out, (Below.refl _ _).drew⟩
/-- Word v, laid as word i of some bytes. -/
def putw (s : Nat → Int) (i : Nat) (v : Int) : Nat → Int := upd (upd (upd (upd s (4 * i) (v % 256)) (4 * i + 1) (v / 256 % 256)) (4 * i + 2) (v / 65536 % 256)) (4 * i + 3) (v / 16777216 % 256)
theorem putw_byts {n : Nat} {s : Nat → Int} {i : Nat} {v : Int} (h : Byts n s) : Byts n (putw s i v) := fun j hj => by
  have := h j hj
  unfold putw upd
  split
  · omega
  split
  · omega
  split
  · omega
  split <;> omega
set_option maxHeartbeats 1000000 in
theorem putWord_walk (b n cp : Nat) (i : Nat) (v : Int) (v0 v1 v2 v3 : Value) (w : World) (c0 : w.cell? ⟨b, 4 * i, none⟩ = some v0) (c1 : w.cell? ⟨b, 4 * i + 1, none⟩ = some v1) (c2 : w.cell? ⟨b, 4 * i + 2, none⟩ = some v2) (c3 : w.cell? ⟨b, 4 * i + 3, none⟩ = some v3)
    (f0 : w.frozen? ⟨b, 4 * i, none⟩ = false) (f1 : w.frozen? ⟨b, 4 * i + 1, none⟩ = false) (f2 : w.frozen? ⟨b, 4 * i + 2, none⟩ = false) (f3 : w.frozen? ⟨b, 4 * i + 3, none⟩ = false) (hv : W32 v) (hi : 4 * i + 4 ≤ n) (hn : n ≤ cp) (hc : cp ≤ 1000000) :
    Calls Tryz.prog 94 #[.slice (some ⟨b, 0, none⟩) n cp, .int .i64 (i : Int), .int .u32 v] w fun e w' => e = .returned (.tuple #[]) ∧
      w' = (((w.setCell ⟨b, 4 * i, none⟩ (.int .u8 (v % 256))).setCell ⟨b, 4 * i + 1, none⟩ (.int .u8 (v / 256 % 256))).setCell ⟨b, 4 * i + 2, none⟩ (.int .u8 (v / 65536 % 256))).setCell ⟨b, 4 * i + 3, none⟩ (.int .u8 (v / 16777216 % 256)) := by
  have HE : Hid (v / 16777216 % 256 = v / 16777216) := Hid.mk (by unfold W32 at hv; omega)
  unfold W32 at hv
  go_enter Tryz.func94, Tryz.ntmps94
  go_wp2
  refine bodyPost_end (results_none rfl _ _ _) rfl ?_
  rw [HE.out]
  exact ⟨rfl, rfl⟩
end Go.Proofs.YtbkbcfimpaolmaaGreat
/-
  Own text. Arrays of numbers in memory; what keySquare of package chacha gives.
-/
namespace Go.Proofs.YtbkbcfimpaolmaaGreat
open Go.RowKit Go.Proofs
set_option maxRecDepth 100000
theorem putWord_arr {t : TypeId} (b n : Nat) (s : Nat → Int) (i : Nat) (v : Int) (w : World) (hR : ArrAt w b .u8 t n s) (hv : W32 v) (hi : 4 * i + 4 ≤ n) (hc : n ≤ 1000000) :
    Calls Tryz.prog 94 #[.slice (some ⟨b, 0, none⟩) n n, .int .i64 (i : Int), .int .u32 v] w fun e w' => e = .returned (.tuple #[]) ∧ ArrAt w' b .u8 t n (putw s i v) ∧ Only b w w' := by
  refine (putWord_walk b n n i v _ _ _ _ w (hR.cell _ (by omega)) (hR.cell _ (by omega)) (hR.cell _ (by omega)) (hR.cell _ (by omega)) (hR.free _) (hR.free _) (hR.free _) (hR.free _) hv hi (Nat.le_refl _) hc).mono ?_
  rintro e w' ⟨rfl, rfl⟩
  exact ⟨rfl, (((hR.set _ _ (by omega)).set _ _ (by omega)).set _ _ (by omega)).set _ _ (by omega), only_set.trans (only_set.trans (only_set.trans only_set))⟩
theorem isArr12 : IsArr 65 12 := ⟨_, _, Tryz.underlying65, by kernel_rfl⟩
theorem isArr64 : IsArr 97 64 := ⟨_, _, Tryz.underlying97, by kernel_rfl⟩
theorem isSq : IsArr 105 16 := ⟨_, _, Tryz.underlying105, by kernel_rfl⟩
end Go.Proofs.YtbkbcfimpaolmaaGreat
/-
  Own text. What word and bytes of the document's answer give.
-/
namespace Go.Proofs.YtbkbcfimpaolmaaGreat
open Go.RowKit Go.Proofs
set_option maxRecDepth 100000
set_option maxHeartbeats 1000000 in
theorem rword_run {t : TypeId} (b n cp : Nat) (s : Nat → Int) (i : Nat) (w : World) (hR : RowAt w b .u8 t n s) (hs : Byts n s) (hi : 4 * i + 4 ≤ n) (hn : n ≤ 1000000) :
    Calls Tryz.prog 99 #[.slice (some ⟨b, 0, none⟩) n cp, .int .i64 (4 * (i : Int))] w fun e w' => e = .returned (.int .i64 (wrd s i)) ∧ Below w.heap.size w w' := by
  have c0 := hR.cell (4 * i) (by omega)
  have c1 := hR.cell (4 * i + 1) (by omega)
  have c2 := hR.cell (4 * i + 2) (by omega)
  have c3 := hR.cell (4 * i + 3) (by omega)
  have h0 := hs (4 * i) (by omega)
  have h1 := hs (4 * i + 1) (by omega)
  have h2 := hs (4 * i + 2) (by omega)
  have h3 := hs (4 * i + 3) (by omega)
  clear hR hs
  go_enter Tryz.func99, Tryz.ntmps99
  go_wp2
  go_region
  go_wp2
  go_ret
  exact ⟨rfl, (Below.refl _ _).drew⟩
/-- The four bytes of a word. -/
def b4 (v : Int) (i : Nat) : Int := if i = 0 then v % 256 else if i = 1 then v / 256 % 256 else if i = 2 then v / 65536 % 256 else v / 16777216 % 256
set_option maxHeartbeats 1000000 in
theorem rbytes_run (v : Int) (w : World) (hv : W32 v) :
    Calls Tryz.prog 77 #[.int .i64 v] w fun e w' => e = .returned (.slice (some ⟨w.heap.size, 0, none⟩) 4 4) ∧ ArrAt w' w.heap.size .u8 5 4 (b4 v) ∧ Below w.heap.size w w' := by
  unfold W32 at hv
  have HW : #[Value.int .u8 (v % 256), .int .u8 (v / 256 % 256), .int .u8 (v / 65536 % 256), .int .u8 (v / 16777216)] = WA .u8 4 (b4 v) := by
    have h : v / 16777216 % 256 = v / 16777216 := by omega
    conv => lhs; rw [← h]
    rfl
  have e1 : v.tdiv 256 = v / 256 := Int.tdiv_eq_ediv_of_nonneg hv.1
  have e2 : v.tdiv 65536 = v / 65536 := Int.tdiv_eq_ediv_of_nonneg hv.1
  have e3 : v.tdiv 16777216 = v / 16777216 := Int.tdiv_eq_ediv_of_nonneg hv.1
  go_enter Tryz.func77, Tryz.ntmps77
  go_wp2
  go_ret
  exact ⟨rfl, heap_alloc_new w _, (Below.refl _ w).alloc (Nat.le_refl _) _⟩
end Go.Proofs.YtbkbcfimpaolmaaGreat
/-
  Own text. What keySquare and streamSquare of package chacha give.
-/
namespace Go.Proofs.YtbkbcfimpaolmaaGreat
open Go.RowKit Go.Proofs
set_option maxRecDepth 100000
/-- The letters. -/
def lets (i : Nat) : Int := [101, 120, 112, 97, 110, 100, 32, 51, 50, 45, 98, 121, 116, 101, 32, 107].getD i 0
theorem lets_byts : Byts 16 lets := by unfold Byts lets; decide
/-- The first words of the square: the letters', then the key's. -/
def ksq (key : Nat → Int) (n : Nat) (i : Nat) : Int := if i < n then (if i < 4 then wrd lets i else wrd key (i - 4)) else 0
theorem ksq_low (key : Nat → Int) (k : Nat) (hk : k < 4) : upd (ksq key k) k (wrd lets k) = ksq key (k + 1) := by
  funext i
  unfold upd ksq
  by_cases e : i = k
  · subst e; simp [hk]
  · rw [if_neg e]
    by_cases h : i < k
    · simp [h, show i < k + 1 by omega]
    · simp [h, show ¬ i < k + 1 by omega]
theorem ksq_high (key : Nat → Int) (k : Nat) : upd (ksq key (4 + k)) (4 + k) (wrd key k) = ksq key (4 + (k + 1)) := by
  funext i
  unfold upd ksq
  by_cases e : i = 4 + k
  · subst e; rw [if_pos rfl, if_pos (by omega), if_neg (by omega)]; congr 1; omega
  · rw [if_neg e]
    by_cases h : i < 4 + k
    · simp [h, show i < 4 + (k + 1) by omega]
    · simp [h, show ¬ i < 4 + (k + 1) by omega]
theorem lets_WA : #[Value.int .u8 101, .int .u8 120, .int .u8 112, .int .u8 97, .int .u8 110, .int .u8 100, .int .u8 32, .int .u8 51, .int .u8 50, .int .u8 45, .int .u8 98, .int .u8 121, .int .u8 116, .int .u8 101, .int .u8 32, .int .u8 107] = WA .u8 16 lets := rfl
theorem conv_lets (w : World) : (convert 67 67 (.slice (some ⟨w.heap.size, 0, none⟩) 16 16)).run Tryz.prog (w.alloc (.cells (WA .u8 16 lets) 5)) = .ok (.slice (some ⟨w.heap.size, 0, none⟩) 16 16) (w.alloc (.cells (WA .u8 16 lets) 5 (16, 17))) := by
  have h := Lib.run_convert_bytes_const (P := Tryz.prog) w 67 5 (WA .u8 16 lets) 16 16 Tryz.underlying67 Tryz.underlying5
  rw [WA_size] at h
  exact h
set_option maxHeartbeats 2000000 in
theorem keySquare_run (key : Nat → Int) (w : World) (hk : Byts 32 key) :
    Calls Tryz.prog 89 #[.agg (WA .u8 32 key)] w fun e w' => e = .returned (.agg (WA .u32 16 (ksq key 12))) ∧ Below w.heap.size w w' := by
  have HW := lets_WA
  go_enter Tryz.func89, Tryz.ntmps89
  go_wp2
  go_loopg [6] 4 (fun m i v => ∃ k : Nat, Hid (m + k = 4) ∧ i = .int .i64 k ∧ ArrAt v w.heap.size .u8 27 32 key ∧ ArrAt v (w.heap.size + 1) .u32 105 16 (fun _ => 0) ∧ ArrAt v (w.heap.size + 1 + 1) .u32 105 16 (ksq key k) ∧ Below w.heap.size w v)
  case atStart => exact ⟨0, Hid.mk rfl, rfl, heap_a31 w _ _ _, heap_a32 w _ _ _, ArrAt.congr (s := fun _ => 0) (heap_a3 w _ _ _) (fun _ _ => rfl), (((Below.refl _ w).alloc (by simp) _).alloc (by simp) _).alloc (by simp; omega) _⟩
  case round =>
    obtain ⟨k, HK, rfl, g0, g1, g2, hB⟩ := hrel
    have hk4 : k ≤ 4 := by have := HK.out; omega
    by_cases hlt : k < 4
    · have hcv := conv_lets wr
      go_wp2_with fail
      refine (wordAt_run wr.heap.size 16 16 lets k _ (RowAt.marked (heap_alloc_new wr _) (Nat.le_refl _)) lets_byts (by omega) (by omega) (by omega)).mono ?_
      rintro e v1 ⟨rfl, hb⟩
      clear hcv
      have hb2 : Below wr.heap.size wr v1 := Below.trans ((Below.refl _ wr).alloc (Nat.le_refl _) _) (hb.mono (by simp))
      replace g0 := g0.kept hb2
      replace g1 := g1.kept hb2
      replace g2 := g2.kept hb2
      replace hB := hB.trans (hb2.mono hB.size)
      clear hb hb2
      have c2 := g2.cell k (by omega)
      have f2 := g2.free k
      go_wp2_with fail
      go_roundg (4 - (k + 1))
      case rel => exact ⟨k + 1, Hid.mk (by omega), by go_num, g0.other _ (by omega), g1.other _ (by omega), by rw [← ksq_low key k hlt]; exact g2.set k _ (by omega), Below.setCell hB (by simp; omega) _⟩
      case measure => have := HK.out; omega
    · have hk2 : k = 4 := by omega
      subst hk2
      clear hlt hk4 HK HW
      go_wp2
      go_loopg [16] 8 (fun m i v => ∃ k : Nat, Hid (m + k = 8) ∧ i = .int .i64 k ∧ ArrAt v w.heap.size .u8 27 32 key ∧ ArrAt v (w.heap.size + 1) .u32 105 16 (fun _ => 0) ∧ ArrAt v (w.heap.size + 1 + 1) .u32 105 16 (ksq key (4 + k)) ∧ Below w.heap.size w v)
      case atStart => exact ⟨0, Hid.mk rfl, rfl, g0, g1, g2, hB⟩
      case round =>
        clear g0 g1 g2 hB
        obtain ⟨k, HK, rfl, g0, g1, g2, hB⟩ := hrel
        have hk8 : k ≤ 8 := by have := HK.out; omega
        by_cases hlt : k < 8
        · go_wp2_with fail
          refine (wordAt_run w.heap.size 32 32 key k _ g0.row hk (by omega) (by omega) (by omega)).mono ?_
          rintro e v1 ⟨rfl, hb⟩
          replace g0 := g0.kept hb
          replace g1 := g1.kept hb
          replace g2 := g2.kept hb
          replace hB := hB.trans (hb.mono hB.size)
          clear hb
          have c2 := g2.cell (4 + k) (by omega)
          have f2 := g2.free (4 + k)
          go_wp2_with fail
          go_roundg (8 - (k + 1))
          case rel => exact ⟨k + 1, Hid.mk (by omega), by go_num, g0.other _ (by omega), g1.other _ (by omega), by rw [← ksq_high key k]; exact g2.set (4 + k) _ (by omega), Below.setCell hB (by simp; omega) _⟩
          case measure => have := HK.out; omega
        · have hk2 : k = 8 := by omega
          subst hk2
          clear hlt hk8 HK
          go_wp2_with (first | (refine ld_arr isSq g2 (by rfl) ?_) | (refine st_arr isSq g1 (by rfl) (by rfl) ?_; intro v2 g3 o3))
          exact bodyPost_ret (v := .agg (WA .u32 16 (ksq key 12))) (res_arr rfl isSq g3 rfl) rfl ⟨rfl, hB.trans (o3.below (by omega))⟩
end Go.Proofs.YtbkbcfimpaolmaaGreat
/-
  Own text. Rows that grow by append; what square of the document's answer gives.
-/
namespace Go.Proofs.YtbkbcfimpaolmaaGreat
open Go.RowKit Go.Proofs
set_option maxRecDepth 100000
/-- The document's square: of all bytes, word by word. -/
def allB (key inn : Nat → Int) : Nat → Int := cat 48 (cat 16 lets key) inn
theorem allB_byts {key inn : Nat → Int} (hk : Byts 32 key) (hi : Byts 16 inn) : Byts 64 (allB key inn) := fun i h => by
  unfold allB cat
  by_cases h1 : i < 48
  · rw [if_pos h1]
    by_cases h2 : i < 16
    · rw [if_pos h2]; exact lets_byts i h2
    · rw [if_neg h2]; exact hk _ (by omega)
  · rw [if_neg h1]; exact hi _ (by omega)
def rsq (key inn : Nat → Int) (i : Nat) : Int := wrd (allB key inn) i
set_option maxHeartbeats 2000000 in
theorem rsquare_run (key inn : Nat → Int) (w : World) (hk : Byts 32 key) (hi : Byts 16 inn) :
    Calls Tryz.prog 78 #[.agg (WA .u8 32 key), .agg (WA .u8 16 inn)] w fun e w' => ∃ b cp, e = .returned (.slice (some ⟨b, 0, none⟩) 16 cp) ∧ 16 ≤ cp ∧ w.heap.size ≤ b ∧ RowAt w' b .i64 3 16 (rsq key inn) ∧ Below w.heap.size w w' := by
  have HW := lets_WA
  have g0 : ArrAt ((w.alloc (.cells (WA .u8 32 key) 27)).alloc (.cells (WA .u8 16 inn) 92)) w.heap.size .u8 27 32 key := heap_alloc2_old w _ _
  have g1 : ArrAt ((w.alloc (.cells (WA .u8 32 key) 27)).alloc (.cells (WA .u8 16 inn) 92)) (w.heap.size + 1) .u8 92 16 inn := heap_alloc2_new w _ _
  have hB : Below w.heap.size w ((w.alloc (.cells (WA .u8 32 key) 27)).alloc (.cells (WA .u8 16 inn) 92)) := ((Below.refl _ w).alloc (by simp) _).alloc (by simp) _
  have hcv := conv_lets ((w.alloc (.cells (WA .u8 32 key) 27)).alloc (.cells (WA .u8 16 inn) 92))
  rw [show ((w.alloc (.cells (WA .u8 32 key) 27)).alloc (.cells (WA .u8 16 inn) 92)).heap.size = w.heap.size + 1 + 1 by simp] at hcv
  go_enter Tryz.func78, Tryz.ntmps78
  have gl : RowAt (((w.alloc (.cells (WA .u8 32 key) 27)).alloc (.cells (WA .u8 16 inn) 92)).alloc (.cells (WA .u8 16 lets) 5 (16, 17))) (w.heap.size + 1 + 1) .u8 5 16 lets := RowAt.marked (heap_a3 w _ _ _) (Nat.le_refl _)
  replace g0 := g0.alloc (.cells (WA .u8 16 lets) 5 (16, 17))
  replace g1 := g1.alloc (.cells (WA .u8 16 lets) 5 (16, 17))
  replace hB := hB.alloc hB.size (.cells (WA .u8 16 lets) 5 (16, 17))
  go_wp2_with (at_builtin; refine ap_full rfl _ _ 67 5 .u8 1 Tryz.underlying67 infoByte (by decide) (by rfl) (n := 16) (m := 32) (by rfl) gl.cell (by rfl) (r := key) (fun j hj => by rw [Nat.zero_add]; exact g0.cell j hj) (by decide) (by decide) ?_; intro va v1 h1 hb1; refine Hid.out ?_)
  clear hcv gl g0 HW
  replace g1 := g1.kept hb1
  have hsz : (((w.alloc (.cells (WA .u8 32 key) 27)).alloc (.cells (WA .u8 16 inn) 92)).alloc (.cells (WA .u8 16 lets) 5 (16, 17))).heap.size = w.heap.size + 1 + 1 + 1 := by simp
  replace hB := hB.trans (hb1.mono hB.size)
  have hz1 := hb1.size
  rw [hsz] at h1 hz1
  clear hb1 hsz
  refine Hid.mk ?_
  go_wp2_with (at_builtin; refine ap_own rfl _ _ 67 5 .u8 1 Tryz.underlying67 infoByte (by decide) (by rfl) (n := 16 + 32) (m := 16) (by rfl) h1 (by rfl) (r := inn) (fun j hj => by rw [Nat.zero_add]; exact g1.cell j hj) (by decide) hz1 ?_; intro vb v2 h2 hb2; refine Hid.out ?_)
  have h3 : v2.ownsRow (w.heap.size + 1 + 1 + 1) 5 1 vb 64 (nums .u8 64 (allB key inn)) := h2
  replace hB := hB.trans (hb2.mono (by omega))
  clear h1 h2 hb2 g1
  obtain ⟨b, cp, rfl, hbb, hcp, hR⟩ := own_row h3 (by decide)
  have hA := allB_byts hk hi
  have HF : Hid (∀ i, wrd (allB key inn) i = rsq key inn i) := Hid.mk (fun _ => rfl)
  generalize allB key inn = al at *
  clear h3 hz1
  refine Hid.mk ?_
  go_wp2_with fail
  go_loopg [6, 7] 16 (fun m vs i v => ∃ k : Nat, Hid (m + k = 16) ∧ i = .int .i64 k ∧ v.ownsRow v2.heap.size 3 1 vs k (nums .i64 k (rsq key inn)) ∧ Below v2.heap.size v2 v)
  case atStart => exact ⟨0, Hid.mk rfl, rfl, World.ownsRow_nil v2 _ _ _, Below.refl _ _⟩
  case round =>
    obtain ⟨k, HK, rfl, hO, hb⟩ := hrel
    have hk16 : k ≤ 16 := by have := HK.out; omega
    by_cases hlt : k < 16
    · go_wp2_with fail
      refine (rword_run b 64 cp al k _ (hR.below hb hR.lt) hA (by omega) (by omega)).mono ?_
      rintro e v3 ⟨rfl, hb3⟩
      rw [HF.out]
      replace hO := own_kept (own_kept hO hb3) ((Below.refl _ v3).alloc (Nat.le_refl _) (.cells #[.int .i64 (rsq key inn k)] 3))
      replace hb := (hb.trans (hb3.mono hb.size)).alloc (Nat.le_trans hb.size hb3.size) (.cells #[.int .i64 (rsq key inn k)] 3)
      clear hb3
      go_wp2_with (at_builtin; refine ap_own rfl _ _ 121 3 .i64 8 Tryz.underlying121 infoInt (by decide) (by rfl) (n := k) (m := 1) (by rfl) hO (by rfl) (r := fun _ => rsq key inn k) (fun j hj => by obtain rfl : j = 0 := (by omega); exact cell_of_row _ _ 0 _ _ _ (heap_alloc_new v3 _)) (by omega) hb.size ?_; intro vb v4 h4 hb4; refine Hid.out ?_)
      rw [nums_congr (cat_one k (rsq key inn))] at h4
      replace hb := hb.trans hb4
      clear hb4 hO
      refine Hid.mk ?_
      go_wp2_with fail
      go_roundg (16 - (k + 1))
      case rel => exact ⟨k + 1, Hid.mk (by omega), by go_num, h4, hb⟩
      case measure => have := HK.out; omega
    · have hk2 : k = 16 := by omega
      subst hk2
      obtain ⟨b', cp', rfl, hb', hcp', hR'⟩ := own_row hO (by decide)
      have hz := hB.size
      go_wp2_with fail
      go_ret
      exact ⟨b', cp', rfl, hcp', by omega, hR', hB.trans (hb.mono hz)⟩
end Go.Proofs.YtbkbcfimpaolmaaGreat
/-
  Own text. What streamSquare, ahead and rounds of package chacha give.
-/
namespace Go.Proofs.YtbkbcfimpaolmaaGreat
open Go.RowKit Go.Proofs
set_option maxRecDepth 100000
/-- The square of a block, its last words but for k still to come. -/
def ssq (key : Nat → Int) (c : Int) (nonce : Nat → Int) (k : Nat) (i : Nat) : Int := if i = 12 then c else if 12 < i ∧ i < 13 + k then wrd nonce (i - 13) else ksq key 12 i
theorem ssq_0 (key : Nat → Int) (c : Int) (nonce : Nat → Int) : upd (ksq key 12) 12 c = ssq key c nonce 0 := by
  funext i
  unfold upd ssq
  by_cases e : i = 12
  · simp [e]
  · rw [if_neg e, if_neg e, if_neg (by omega)]
theorem ssq_step (key : Nat → Int) (c : Int) (nonce : Nat → Int) (k : Nat) : upd (ssq key c nonce k) (13 + k) (wrd nonce k) = ssq key c nonce (k + 1) := by
  funext i
  unfold upd ssq
  by_cases e : i = 13 + k
  · subst e; rw [if_pos rfl, if_neg (by omega), if_pos (by omega)]; congr 1; omega
  · rw [if_neg e]
    by_cases h : i = 12
    · simp [h]
    · rw [if_neg h, if_neg h]
      by_cases h' : 12 < i ∧ i < 13 + k
      · rw [if_pos h', if_pos (by omega)]
      · rw [if_neg h', if_neg (by omega)]
set_option maxHeartbeats 2000000 in
theorem streamSquare_run (key nonce : Nat → Int) (c : Int) (w : World) (hk : Byts 32 key) (hn : Byts 12 nonce) :
    Calls Tryz.prog 68 #[.agg (WA .u8 32 key), .int .u32 c, .agg (WA .u8 12 nonce)] w fun e w' => e = .returned (.agg (WA .u32 16 (ssq key c nonce 3))) ∧ Below w.heap.size w w' := by
  have g0 : ArrAt (((w.alloc (.cells (WA .u8 32 key) 27)).alloc (.cells (WA .u8 12 nonce) 65)).alloc (.cells (WA .u32 16 fun _ => 0) 105)) w.heap.size .u8 27 32 key := heap_a31 w _ _ _
  have g1 : ArrAt (((w.alloc (.cells (WA .u8 32 key) 27)).alloc (.cells (WA .u8 12 nonce) 65)).alloc (.cells (WA .u32 16 fun _ => 0) 105)) (w.heap.size + 1) .u8 65 12 nonce := heap_a32 w _ _ _
  have g2 : ArrAt (((w.alloc (.cells (WA .u8 32 key) 27)).alloc (.cells (WA .u8 12 nonce) 65)).alloc (.cells (WA .u32 16 fun _ => 0) 105)) (w.heap.size + 1 + 1) .u32 105 16 (fun _ => 0) := heap_a3 w _ _ _
  have hB : Below w.heap.size w (((w.alloc (.cells (WA .u8 32 key) 27)).alloc (.cells (WA .u8 12 nonce) 65)).alloc (.cells (WA .u32 16 fun _ => 0) 105)) := (((Below.refl _ w).alloc (by simp) _).alloc (by simp) _).alloc (by simp; omega) _
  go_enter Tryz.func68, Tryz.ntmps68
  go_wp2_with (first | (refine ld_arr isArr32 g0 (by rfl) ?_))
  refine (keySquare_run key _ hk).mono ?_
  rintro e v1 ⟨rfl, hb⟩
  replace g0 := g0.kept hb
  replace g1 := g1.kept hb
  replace g2 := g2.kept hb
  replace hB := hB.trans (hb.mono hB.size)
  clear hb
  go_wp2_with (first | (refine st_arr (s' := fun _ => 0) (k' := .u32) isSq (heap_alloc_new v1 _) (by rfl) (by rfl) ?_; intro v2 g3 o3; refine Hid.out ?_))
  have hs1 := g2.lt
  replace g1 := (g1.alloc _).only o3 (Nat.ne_of_lt g1.lt)
  replace g2 := (g2.alloc _).only o3 (Nat.ne_of_lt g2.lt)
  replace hB := (hB.alloc hB.size _).trans (o3.below hB.size)
  clear o3 g0
  generalize v1.heap.size = B3 at *
  have c3 := g3.cell 12 (by omega)
  have f3 := g3.free 12
  refine Hid.mk ?_
  go_wp2_with fail
  replace g1 := g1.other (g := B3) (i := 12) (.int .u32 c) (by omega)
  replace g2 := g2.other (g := B3) (i := 12) (.int .u32 c) (by omega)
  replace g3 := g3.set 12 c (by omega)
  rw [ssq_0 key c nonce] at g3
  replace hB := Below.setCell hB (p := ⟨B3, 12, none⟩) (by simp; omega) (.int .u32 c)
  clear c3 f3
  go_loopg [13] 3 (fun m i v => ∃ k : Nat, Hid (m + k = 3) ∧ i = .int .i64 k ∧ ArrAt v (w.heap.size + 1) .u8 65 12 nonce ∧ ArrAt v (w.heap.size + 1 + 1) .u32 105 16 (fun _ => 0) ∧ ArrAt v B3 .u32 105 16 (ssq key c nonce k) ∧ Below w.heap.size w v)
  case atStart => exact ⟨0, Hid.mk rfl, rfl, g1, g2, g3, hB⟩
  case round =>
    clear g1 g2 g3 hB
    obtain ⟨k, HK, rfl, g1, g2, g3, hB⟩ := hrel
    have hk3 : k ≤ 3 := by have := HK.out; omega
    by_cases hlt : k < 3
    · go_wp2_with fail
      refine (wordAt_run (w.heap.size + 1) 12 12 nonce k _ g1.row hn (by omega) (by omega) (by omega)).mono ?_
      rintro e v3 ⟨rfl, hb⟩
      replace g1 := g1.kept hb
      replace g2 := g2.kept hb
      replace g3 := g3.kept hb
      replace hB := hB.trans (hb.mono hB.size)
      clear hb
      have c3 := g3.cell (13 + k) (by omega)
      have f3 := g3.free (13 + k)
      go_wp2_with fail
      go_roundg (3 - (k + 1))
      case rel => exact ⟨k + 1, Hid.mk (by omega), by go_num, g1.other _ (by omega), g2.other _ (by omega), by rw [← ssq_step key c nonce k]; exact g3.set (13 + k) _ (by omega), Below.setCell hB (by simp; omega) _⟩
      case measure => have := HK.out; omega
    · have hk2 : k = 3 := by omega
      subst hk2
      clear hlt hk3 HK
      go_wp2_with (first | (refine ld_arr isSq g3 (by rfl) ?_) | (refine st_arr isSq g2 (by rfl) (by rfl) ?_; intro v4 g4 o4))
      exact bodyPost_ret (v := .agg (WA .u32 16 (ssq key c nonce 3))) (res_arr rfl isSq g4 rfl) rfl ⟨rfl, hB.trans (o4.below (by omega))⟩
set_option maxHeartbeats 1000000 in
theorem ahead_run (s : Nat → Int) (n : Int) (w : World) :
    Calls Tryz.prog 70 #[.agg (WA .u32 16 s), .int .u32 n] w fun e w' => e = .returned (.agg (WA .u32 16 (upd s 12 (addw (s 12) n)))) ∧ Below w.heap.size w w' := by
  unfold addw
  have e0 := WA_get .u32 16 s 12 (by omega)
  have e1 := WA_set .u32 16 s 12 ((s 12 + n) % 4294967296) (by omega)
  go_enter Tryz.func70, Tryz.ntmps70
  go_wp2_with (first | (refine ld_arr isSq (heap_alloc2_old w _ _) (by rfl) ?_) | (refine st_arr (s' := fun _ => 0) (k' := .u32) isSq (heap_alloc2_new w _ _) (by rfl) (by rfl) ?_; intro v4 g4 o4))
  exact bodyPost_ret (v := .agg (WA .u32 16 (upd s 12 ((s 12 + n) % 4294967296)))) (res_arr rfl isSq g4 rfl) rfl ⟨rfl, (((Below.refl _ w).alloc (by simp) _).alloc (by simp) _).trans (o4.below (by omega))⟩
end Go.Proofs.YtbkbcfimpaolmaaGreat
/-
  Own text. What rounds of package chacha gives: ten times the eight quarter rounds.
-/
namespace Go.Proofs.YtbkbcfimpaolmaaGreat
open Go.RowKit Go.Proofs
set_option maxRecDepth 100000
/-- Two rounds. -/
def dbl (s : Nat → Int) : Nat → Int :=
  qrow (qrow (qrow (qrow (qrow (qrow (qrow (qrow s 0 4 8 12) 1 5 9 13) 2 6 10 14) 3 7 11 15) 0 5 10 15) 1 6 11 12) 2 7 8 13) 3 4 9 14
def rnds (s : Nat → Int) : Nat → Nat → Int
  | 0 => s
  | k + 1 => dbl (rnds s k)
theorem dbl_w {s : Nat → Int} (h : ∀ i, i < 16 → W32 (s i)) : ∀ i, i < 16 → W32 (dbl s i) :=
  qrow_w (qrow_w (qrow_w (qrow_w (qrow_w (qrow_w (qrow_w (qrow_w h (by decide) (by decide) (by decide) (by decide)) (by decide) (by decide) (by decide) (by decide)) (by decide) (by decide) (by decide) (by decide)) (by decide) (by decide) (by decide) (by decide)) (by decide) (by decide) (by decide) (by decide)) (by decide) (by decide) (by decide) (by decide)) (by decide) (by decide) (by decide) (by decide)) (by decide) (by decide) (by decide) (by decide)
theorem rnds_w {s : Nat → Int} (h : ∀ i, i < 16 → W32 (s i)) : ∀ k i, i < 16 → W32 (rnds s k i)
  | 0 => h
  | k + 1 => dbl_w (rnds_w h k)
set_option maxHeartbeats 8000000 in
set_option maxRecDepth 100000 in
theorem rounds_run (s : Nat → Int) (w : World) (hs : ∀ i, i < 16 → W32 (s i)) :
    Calls Tryz.prog 93 #[.agg (WA .u32 16 s)] w fun e w' => e = .returned (.agg (WA .u32 16 (rnds s 10))) ∧ Below w.heap.size w w' := by
  go_enter Tryz.func93, Tryz.ntmps93
  go_wp2_with fail
  go_loopg [3] 10 (fun m i v => ∃ k : Nat, Hid (m + k = 10) ∧ i = .int .i64 k ∧ ArrAt v w.heap.size .u32 105 16 (rnds s k) ∧ ArrAt v (w.heap.size + 1) .u32 105 16 (fun _ => 0) ∧ Below w.heap.size w v)
  case atStart => exact ⟨0, Hid.mk rfl, rfl, heap_alloc2_old w _ _, heap_alloc2_new w _ _, ((Below.refl _ w).alloc (by simp) _).alloc (by simp) _⟩
  case round =>
    obtain ⟨k, HK, rfl, g, g1, hB⟩ := hrel
    have hk10 : k ≤ 10 := by have := HK.out; omega
    by_cases hlt : k < 10
    · have HN : Hid (dbl (rnds s k) = rnds s (k + 1)) := Hid.mk rfl
      have W0 := rnds_w hs k
      generalize rnds s k = s0 at *
      unfold dbl at HN
      go_wp2_with (first | (refine ld_cell g (by rfl) (by decide) ?_))
      refine (quarter_run (s0 0) (s0 4) (s0 8) (s0 12) _ (W0 0 (by decide)) (W0 4 (by decide)) (W0 8 (by decide)) (W0 12 (by decide))).mono ?_
      rintro e vq ⟨rfl, rfl⟩
      go_wp2_with (first | (refine st_cell (i := 12) g (by rfl) (by rfl) (by decide) ?_; clear g; intro v2 g o2; replace g1 := g1.only o2 (by omega); replace hB := hB.trans (o2.below (Nat.le_refl _)); clear o2; refine Hid.out ?_) | (refine st_cell g (by rfl) (by rfl) (by decide) ?_; clear g; intro v2 g o2; replace g1 := g1.only o2 (by omega); replace hB := hB.trans (o2.below (Nat.le_refl _)); clear o2))
      replace g : ArrAt v2 w.heap.size .u32 105 16 (qrow s0 0 4 8 12) := g
      have W1 := qrow_w (a := 0) (b := 4) (c := 8) (d := 12) W0 (by decide) (by decide) (by decide) (by decide)
      generalize qrow s0 0 4 8 12 = s1 at *
      clear W0
      refine Hid.mk ?_
      go_wp2_with (first | (refine ld_cell g (by rfl) (by decide) ?_))
      refine (quarter_run (s1 1) (s1 5) (s1 9) (s1 13) _ (W1 1 (by decide)) (W1 5 (by decide)) (W1 9 (by decide)) (W1 13 (by decide))).mono ?_
      rintro e vq ⟨rfl, rfl⟩
      go_wp2_with (first | (refine st_cell (i := 13) g (by rfl) (by rfl) (by decide) ?_; clear g; intro v2 g o2; replace g1 := g1.only o2 (by omega); replace hB := hB.trans (o2.below (Nat.le_refl _)); clear o2; refine Hid.out ?_) | (refine st_cell g (by rfl) (by rfl) (by decide) ?_; clear g; intro v2 g o2; replace g1 := g1.only o2 (by omega); replace hB := hB.trans (o2.below (Nat.le_refl _)); clear o2))
      replace g : ArrAt v2 w.heap.size .u32 105 16 (qrow s1 1 5 9 13) := g
      have W2 := qrow_w (a := 1) (b := 5) (c := 9) (d := 13) W1 (by decide) (by decide) (by decide) (by decide)
      generalize qrow s1 1 5 9 13 = s2 at *
      clear W1
      refine Hid.mk ?_
      go_wp2_with (first | (refine ld_cell g (by rfl) (by decide) ?_))
      refine (quarter_run (s2 2) (s2 6) (s2 10) (s2 14) _ (W2 2 (by decide)) (W2 6 (by decide)) (W2 10 (by decide)) (W2 14 (by decide))).mono ?_
      rintro e vq ⟨rfl, rfl⟩
      go_wp2_with (first | (refine st_cell (i := 14) g (by rfl) (by rfl) (by decide) ?_; clear g; intro v2 g o2; replace g1 := g1.only o2 (by omega); replace hB := hB.trans (o2.below (Nat.le_refl _)); clear o2; refine Hid.out ?_) | (refine st_cell g (by rfl) (by rfl) (by decide) ?_; clear g; intro v2 g o2; replace g1 := g1.only o2 (by omega); replace hB := hB.trans (o2.below (Nat.le_refl _)); clear o2))
      replace g : ArrAt v2 w.heap.size .u32 105 16 (qrow s2 2 6 10 14) := g
      have W3 := qrow_w (a := 2) (b := 6) (c := 10) (d := 14) W2 (by decide) (by decide) (by decide) (by decide)
      generalize qrow s2 2 6 10 14 = s3 at *
      clear W2
      refine Hid.mk ?_
      go_wp2_with (first | (refine ld_cell g (by rfl) (by decide) ?_))
      refine (quarter_run (s3 3) (s3 7) (s3 11) (s3 15) _ (W3 3 (by decide)) (W3 7 (by decide)) (W3 11 (by decide)) (W3 15 (by decide))).mono ?_
      rintro e vq ⟨rfl, rfl⟩
      go_wp2_with (first | (refine st_cell (i := 15) g (by rfl) (by rfl) (by decide) ?_; clear g; intro v2 g o2; replace g1 := g1.only o2 (by omega); replace hB := hB.trans (o2.below (Nat.le_refl _)); clear o2; refine Hid.out ?_) | (refine st_cell g (by rfl) (by rfl) (by decide) ?_; clear g; intro v2 g o2; replace g1 := g1.only o2 (by omega); replace hB := hB.trans (o2.below (Nat.le_refl _)); clear o2))
      replace g : ArrAt v2 w.heap.size .u32 105 16 (qrow s3 3 7 11 15) := g
      have W4 := qrow_w (a := 3) (b := 7) (c := 11) (d := 15) W3 (by decide) (by decide) (by decide) (by decide)
      generalize qrow s3 3 7 11 15 = s4 at *
      clear W3
      refine Hid.mk ?_
      go_wp2_with (first | (refine ld_cell g (by rfl) (by decide) ?_))
      refine (quarter_run (s4 0) (s4 5) (s4 10) (s4 15) _ (W4 0 (by decide)) (W4 5 (by decide)) (W4 10 (by decide)) (W4 15 (by decide))).mono ?_
      rintro e vq ⟨rfl, rfl⟩
      go_wp2_with (first | (refine st_cell (i := 15) g (by rfl) (by rfl) (by decide) ?_; clear g; intro v2 g o2; replace g1 := g1.only o2 (by omega); replace hB := hB.trans (o2.below (Nat.le_refl _)); clear o2; refine Hid.out ?_) | (refine st_cell g (by rfl) (by rfl) (by decide) ?_; clear g; intro v2 g o2; replace g1 := g1.only o2 (by omega); replace hB := hB.trans (o2.below (Nat.le_refl _)); clear o2))
      replace g : ArrAt v2 w.heap.size .u32 105 16 (qrow s4 0 5 10 15) := g
      have W5 := qrow_w (a := 0) (b := 5) (c := 10) (d := 15) W4 (by decide) (by decide) (by decide) (by decide)
      generalize qrow s4 0 5 10 15 = s5 at *
      clear W4
      refine Hid.mk ?_
      go_wp2_with (first | (refine ld_cell g (by rfl) (by decide) ?_))
      refine (quarter_run (s5 1) (s5 6) (s5 11) (s5 12) _ (W5 1 (by decide)) (W5 6 (by decide)) (W5 11 (by decide)) (W5 12 (by decide))).mono ?_
      rintro e vq ⟨rfl, rfl⟩
      go_wp2_with (first | (refine st_cell (i := 12) g (by rfl) (by rfl) (by decide) ?_; clear g; intro v2 g o2; replace g1 := g1.only o2 (by omega); replace hB := hB.trans (o2.below (Nat.le_refl _)); clear o2; refine Hid.out ?_) | (refine st_cell g (by rfl) (by rfl) (by decide) ?_; clear g; intro v2 g o2; replace g1 := g1.only o2 (by omega); replace hB := hB.trans (o2.below (Nat.le_refl _)); clear o2))
      replace g : ArrAt v2 w.heap.size .u32 105 16 (qrow s5 1 6 11 12) := g
      have W6 := qrow_w (a := 1) (b := 6) (c := 11) (d := 12) W5 (by decide) (by decide) (by decide) (by decide)
      generalize qrow s5 1 6 11 12 = s6 at *
      clear W5
      refine Hid.mk ?_
      go_wp2_with (first | (refine ld_cell g (by rfl) (by decide) ?_))
      refine (quarter_run (s6 2) (s6 7) (s6 8) (s6 13) _ (W6 2 (by decide)) (W6 7 (by decide)) (W6 8 (by decide)) (W6 13 (by decide))).mono ?_
      rintro e vq ⟨rfl, rfl⟩
      go_wp2_with (first | (refine st_cell (i := 13) g (by rfl) (by rfl) (by decide) ?_; clear g; intro v2 g o2; replace g1 := g1.only o2 (by omega); replace hB := hB.trans (o2.below (Nat.le_refl _)); clear o2; refine Hid.out ?_) | (refine st_cell g (by rfl) (by rfl) (by decide) ?_; clear g; intro v2 g o2; replace g1 := g1.only o2 (by omega); replace hB := hB.trans (o2.below (Nat.le_refl _)); clear o2))
      replace g : ArrAt v2 w.heap.size .u32 105 16 (qrow s6 2 7 8 13) := g
      have W7 := qrow_w (a := 2) (b := 7) (c := 8) (d := 13) W6 (by decide) (by decide) (by decide) (by decide)
      generalize qrow s6 2 7 8 13 = s7 at *
      clear W6
      refine Hid.mk ?_
      go_wp2_with (first | (refine ld_cell g (by rfl) (by decide) ?_))
      refine (quarter_run (s7 3) (s7 4) (s7 9) (s7 14) _ (W7 3 (by decide)) (W7 4 (by decide)) (W7 9 (by decide)) (W7 14 (by decide))).mono ?_
      rintro e vq ⟨rfl, rfl⟩
      go_wp2_with (first | (refine st_cell (i := 14) g (by rfl) (by rfl) (by decide) ?_; clear g; intro v2 g o2; replace g1 := g1.only o2 (by omega); replace hB := hB.trans (o2.below (Nat.le_refl _)); clear o2; refine Hid.out ?_) | (refine st_cell g (by rfl) (by rfl) (by decide) ?_; clear g; intro v2 g o2; replace g1 := g1.only o2 (by omega); replace hB := hB.trans (o2.below (Nat.le_refl _)); clear o2))
      replace g : ArrAt v2 w.heap.size .u32 105 16 (qrow s7 3 4 9 14) := g
      have W8 := qrow_w (a := 3) (b := 4) (c := 9) (d := 14) W7 (by decide) (by decide) (by decide) (by decide)
      rw [HN.out] at g
      refine Hid.mk ?_
      go_wp2_with fail
      go_roundg (10 - (k + 1))
      case rel => exact ⟨k + 1, Hid.mk (by omega), by go_num, g, g1, hB⟩
      case measure => have := HK.out; omega
    · have hk2 : k = 10 := by omega
      subst hk2
      clear hlt hk10 HK
      go_wp2_with (first | (refine ld_arr isSq g (by rfl) ?_) | (refine st_arr isSq g1 (by rfl) (by rfl) ?_; intro v4 g4 o4))
      exact bodyPost_ret (v := .agg (WA .u32 16 (rnds s 10))) (res_arr rfl isSq g4 rfl) rfl ⟨rfl, hB.trans (o4.below (by omega))⟩
end Go.Proofs.YtbkbcfimpaolmaaGreat
/-
  Own text. What twenty of the document's answer gives.
-/
namespace Go.Proofs.YtbkbcfimpaolmaaGreat
open Go.RowKit Go.Proofs
set_option maxRecDepth 100000
/-- The first k columns of a round. -/
def col (s : Nat → Int) : Nat → Nat → Int
  | 0 => s
  | k + 1 => qrow (col s k) k (4 + k) (8 + k) (12 + k)
/-- The first k diagonals. -/
def dia (s : Nat → Int) : Nat → Nat → Int
  | 0 => s
  | k + 1 => qrow (dia s k) k (4 + (k + 1) % 4) (8 + (k + 2) % 4) (12 + (k + 3) % 4)
theorem dbl_cols (s : Nat → Int) : dia (col s 4) 4 = dbl s := rfl
theorem col_w {s : Nat → Int} (h : ∀ i, i < 16 → W32 (s i)) : ∀ k, k ≤ 4 → ∀ i, i < 16 → W32 (col s k i)
  | 0, _ => h
  | k + 1, hk => qrow_w (col_w h k (by omega)) (by omega) (by omega) (by omega) (by omega)
theorem dia_w {s : Nat → Int} (h : ∀ i, i < 16 → W32 (s i)) : ∀ k, k ≤ 4 → ∀ i, i < 16 → W32 (dia s k i)
  | 0, _ => h
  | k + 1, hk => qrow_w (dia_w h k (by omega)) (by omega) (by omega) (by omega) (by omega)
theorem tmod4 (k n : Nat) : ((k : Int) + n).tmod 4 = (((k + n) % 4 : Nat) : Int) := by
  rw [Int.tmod_eq_emod_of_nonneg (by omega)]; omega
theorem cat_zero (f r : Nat → Int) : ∀ i, i < 0 + 16 → cat 0 f r i = r i := fun i _ => by simp [cat]
set_option maxHeartbeats 2000000 in
theorem twenty_run (s : Nat → Int) (b cp : Nat) (w : World) (hR : RowAt w b .i64 3 16 s) (hs : ∀ i, i < 16 → W32 (s i)) :
    Calls Tryz.prog 79 #[.slice (some ⟨b, 0, none⟩) 16 cp] w fun e w' => ∃ b' cp', e = .returned (.slice (some ⟨b', 0, none⟩) 16 cp') ∧ 16 ≤ cp' ∧ w.heap.size ≤ b' ∧ RowAt w' b' .i64 3 16 (rnds s 10) ∧ Below w.heap.size w w' := by
  go_enter Tryz.func79, Tryz.ntmps79
  have HR : Hid (∀ j, j < 16 → (w.alloc (.cells #[] 3)).cell? ⟨b, 0 + j, none⟩ = some (.int .i64 (s j))) := Hid.mk (fun j hj => by rw [Nat.zero_add]; exact (hR.alloc _).cell j hj)
  clear hR
  go_wp2_with (at_builtin; refine ap_full rfl _ _ 121 3 .i64 8 Tryz.underlying121 infoInt (by decide) (by rfl) (n := 0) (m := 16) (f := s) (by rfl) (fun j hj => by omega) (by rfl) (r := s) HR.out (by decide) (by decide) ?_; intro va v1 h1 hb1; refine Hid.out ?_)
  clear HR
  rw [nums_congr (cat_zero s s)] at h1
  obtain ⟨b', cp', rfl, hbb, hcp, hR⟩ := own_row h1 (by decide)
  replace hcp : 16 ≤ cp' := hcp
  replace hR : RowAt v1 b' .i64 3 16 (rnds s 0) := hR
  replace hbb : w.heap.size ≤ b' := by simp at hbb; omega
  have hB : Below w.heap.size w v1 := Below.trans ((Below.refl _ w).alloc (Nat.le_refl _) _) (hb1.mono (by simp))
  clear h1 hb1
  refine Hid.mk ?_
  simp only [Nat.zero_add]
  go_wp2_with fail
  go_loopg [3] 10 (fun m i v => ∃ k : Nat, Hid (m + k = 10) ∧ i = .int .i64 k ∧ RowAt v b' .i64 3 16 (rnds s k) ∧ Below w.heap.size w v)
  case atStart => exact ⟨0, Hid.mk rfl, rfl, hR, hB⟩
  case round =>
    clear hR hB
    obtain ⟨k, HK, rfl, hR, hB⟩ := hrel
    have hk10 : k ≤ 10 := by have := HK.out; omega
    by_cases hlt : k < 10
    · have HN : Hid (dia (col (rnds s k) 4) 4 = rnds s (k + 1)) := Hid.mk rfl
      have W0 := rnds_w hs k
      generalize rnds s k = s0 at *
      have hd : decide ((k : Int) < 10) = true := by simp; omega
      go_wp2_with fail
      generalize wr = wo at *
      go_loopg [4] 4 (fun m i v => ∃ j : Nat, Hid (m + j = 4) ∧ i = .int .i64 j ∧ RowAt v b' .i64 3 16 (col s0 j) ∧ Below w.heap.size w v)
      case atStart => exact ⟨0, Hid.mk rfl, rfl, hR, hB⟩
      case round =>
        clear hR hB
        obtain ⟨j, HJ, rfl, hR, hB⟩ := hrel
        have hj4 : j ≤ 4 := by have := HJ.out; omega
        by_cases hjl : j < 4
        · go_wp2_with fail
          refine (rquarter_run b' 16 cp' (col s0 j) j (4 + j) (8 + j) (12 + j) wr hR (col_w W0 j hj4) (by omega) (by omega) (by omega) (by omega) (by omega) (by omega) (by omega) (by omega) (by omega) (by omega)).mono ?_
          rintro e v2 ⟨rfl, hR2, hT⟩
          replace hB := hB.trans (below_touch hT hbb hB.size)
          clear hT hR
          go_wp2_with fail
          go_roundg (4 - (j + 1))
          case rel => exact ⟨j + 1, Hid.mk (by omega), by go_num, hR2, hB⟩
          case measure => have := HJ.out; omega
        · have hj2 : j = 4 := by omega
          subst hj2
          clear hjl hj4 HJ
          have W1 := col_w W0 4 (Nat.le_refl _)
          generalize col s0 4 = s1 at *
          go_wp2_with fail
          rw [show ((4 : Nat) : Int) = 4 from rfl]
          generalize wr = wo2 at *
          go_loopg [5] 4 (fun m i v => ∃ j : Nat, Hid (m + j = 4) ∧ i = .int .i64 j ∧ RowAt v b' .i64 3 16 (dia s1 j) ∧ Below w.heap.size w v)
          case atStart => exact ⟨0, Hid.mk rfl, rfl, hR, hB⟩
          case round =>
            clear hR hB
            obtain ⟨j, HJ, rfl, hR, hB⟩ := hrel
            have hj4 : j ≤ 4 := by have := HJ.out; omega
            by_cases hjl : j < 4
            · have t1 : ((j : Int) + 1).tmod 4 = (((j + 1) % 4 : Nat) : Int) := tmod4 j 1
              have t2 : ((j : Int) + 2).tmod 4 = (((j + 2) % 4 : Nat) : Int) := tmod4 j 2
              have t3 : ((j : Int) + 3).tmod 4 = (((j + 3) % 4 : Nat) : Int) := tmod4 j 3
              have hr := rquarter_run b' 16 cp' (dia s1 j) j (4 + (j + 1) % 4) (8 + (j + 2) % 4) (12 + (j + 3) % 4) wr hR (dia_w W1 j hj4) (by omega) (by omega) (by omega) (by omega) (by omega) (by omega) (by omega) (by omega) (by omega) (by omega)
              have HR : Hid (∀ v, RowAt v b' .i64 3 16 (qrow (dia s1 j) j (4 + (j + 1) % 4) (8 + (j + 2) % 4) (12 + (j + 3) % 4)) → RowAt v b' .i64 3 16 (dia s1 (j + 1))) := Hid.mk (fun _ h => h)
              have m1 : (j + 1) % 4 < 4 := by omega
              have m2 : (j + 2) % 4 < 4 := by omega
              have m3 : (j + 3) % 4 < 4 := by omega
              generalize (j + 1) % 4 = x1 at *
              generalize (j + 2) % 4 = x2 at *
              generalize (j + 3) % 4 = x3 at *
              go_wp2_with fail
              refine hr.mono ?_
              rintro e v2 ⟨rfl, hR2, hT⟩
              replace hB := hB.trans (below_touch hT hbb hB.size)
              clear hT hR hr
              replace hR2 := HR.out _ hR2
              go_wp2_with fail
              go_roundg (4 - (j + 1))
              case rel => exact ⟨j + 1, Hid.mk (by omega), by go_num, hR2, hB⟩
              case measure => have := HJ.out; omega
            · have hj2 : j = 4 := by omega
              subst hj2
              clear hjl hj4 HJ
              rw [HN.out] at hR
              go_wp2_with fail
              go_roundg (10 - (k + 1))
              case rel => exact ⟨k + 1, Hid.mk (by omega), by go_num, hR, hB⟩
              case measure => have := HK.out; omega
    · have hk2 : k = 10 := by omega
      subst hk2
      go_wp2_with fail
      go_ret
      exact ⟨b', cp', rfl, hcp, hbb, hR, hB⟩
end Go.Proofs.YtbkbcfimpaolmaaGreat
/-
  Own text. What block and Block of package chacha give.
-/
namespace Go.Proofs.YtbkbcfimpaolmaaGreat
open Go.RowKit Go.Proofs
set_option maxRecDepth 100000
/-- The bytes of the first k words. -/
def pw (f : Nat → Int) : Nat → Nat → Int
  | 0 => fun _ => 0
  | k + 1 => putw (pw f k) k (f k)
theorem pw_byts (f : Nat → Int) (n : Nat) : ∀ k, Byts n (pw f k)
  | 0 => fun i _ => by simp [pw]
  | k + 1 => putw_byts (pw_byts f n k)
theorem pw_congr {f g : Nat → Int} : ∀ {k : Nat}, (∀ i, i < k → f i = g i) → pw f k = pw g k
  | 0, _ => rfl
  | k + 1, h => by unfold pw; rw [pw_congr (fun i hi => h i (by omega)), h k (by omega)]
/-- The words of a block: those behind the rounds and those ahead of them. -/
def bsum (s : Nat → Int) (i : Nat) : Int := addw (rnds s 10 i) (s i)
def blk (s : Nat → Int) : Nat → Int := pw (bsum s) 16
theorem sl64 (b : Nat) (w : World) : (Instr.sliceAt 97 (.pointer (some ⟨b, 0, none⟩)) none none none).run Tryz.prog w = .ok (.slice (some ⟨b, 0, none⟩) 64 64) w := by simp [go_sem]
theorem sl32 (b : Nat) (w : World) : (Instr.sliceAt 27 (.pointer (some ⟨b, 0, none⟩)) none none none).run Tryz.prog w = .ok (.slice (some ⟨b, 0, none⟩) 32 32) w := by simp [go_sem]
theorem undSq : Tryz.prog.underlying 105 = some (.array (Tryz.prog.arrayLen 105) (Tryz.prog.elem 105)) := Tryz.underlying105
theorem lenSq : Tryz.prog.arrayLen 105 = 16 := by kernel_rfl
theorem sizeSq (w : World) : (sizeOf (Tryz.prog.elem 105)).run Tryz.prog w = .ok 1 w := by kernel_rfl
theorem enterPut (args : Array Value) (w : World) : (callFunc 94 args).run Tryz.prog w = .ok (.enter 94 args) w := by kernel_rfl
set_option maxHeartbeats 2000000 in
theorem block_run (s : Nat → Int) (w : World) (hs : ∀ i, i < 16 → W32 (s i)) :
    Calls Tryz.prog 71 #[.agg (WA .u32 16 s)] w fun e w' => e = .returned (.agg (WA .u8 64 (blk s))) ∧ Below w.heap.size w w' := by
  have g0 : ArrAt ((w.alloc (.cells (WA .u32 16 s) 105)).alloc (.cells (WA .u8 64 fun _ => 0) 97)) w.heap.size .u32 105 16 s := heap_alloc2_old w _ _
  have g1 : ArrAt ((w.alloc (.cells (WA .u32 16 s) 105)).alloc (.cells (WA .u8 64 fun _ => 0) 97)) (w.heap.size + 1) .u8 97 64 (fun _ => 0) := heap_alloc2_new w _ _
  have hB : Below w.heap.size w ((w.alloc (.cells (WA .u32 16 s) 105)).alloc (.cells (WA .u8 64 fun _ => 0) 97)) := ((Below.refl _ w).alloc (by simp) _).alloc (by simp) _
  go_enter Tryz.func71, Tryz.ntmps71
  go_wp2_with (first | (refine ld_arr isSq g0 (by rfl) ?_))
  refine (rounds_run s _ hs).mono ?_
  rintro e v1 ⟨rfl, hb⟩
  replace g0 := g0.kept hb
  replace g1 := g1.kept hb
  replace hB := hB.trans (hb.mono hB.size)
  clear hb
  have W1 := rnds_w hs 10
  have HE : Hid (∀ i, addw (rnds s 10 i) (s i) = bsum s i) := Hid.mk (fun _ => rfl)
  have HP : Hid (pw (bsum s) 16 = blk s) := Hid.mk rfl
  generalize rnds s 10 = r at *
  go_wp2_with (first | (refine st_arr (s' := fun _ => 0) (k' := .u32) isSq (heap_alloc_new v1 _) (by rfl) (by rfl) ?_; intro v2 g3 o3; refine Hid.out ?_))
  have hs1 := g1.lt
  replace g0 := (g0.alloc _).only o3 (Nat.ne_of_lt g0.lt)
  replace g1 := (g1.alloc _).only o3 (Nat.ne_of_lt g1.lt)
  replace hB := (hB.alloc hB.size _).trans (o3.below hB.size)
  clear o3
  generalize v1.heap.size = B3 at *
  refine Hid.mk ?_
  go_wp2_with fail
  have g4 : ArrAt (v2.alloc (.cells (WA .u8 64 fun _ => 0) 97)) v2.heap.size .u8 97 64 (pw (bsum s) 0) := heap_alloc_new v2 _
  have hs2 := g3.lt
  go_loopg [8] 16 (fun m i v => ∃ k : Nat, Hid (m + k = 16) ∧ i = .int .i64 k ∧ ArrAt v w.heap.size .u32 105 16 s ∧ ArrAt v (w.heap.size + 1) .u8 97 64 (fun _ => 0) ∧ ArrAt v B3 .u32 105 16 r ∧ ArrAt v v2.heap.size .u8 97 64 (pw (bsum s) k) ∧ Below w.heap.size w v)
  case atStart => exact ⟨0, Hid.mk rfl, rfl, g0.alloc _, g1.alloc _, g3.alloc _, g4, hB.alloc hB.size _⟩
  case round =>
    clear g0 g1 g3 g4 hB
    obtain ⟨k, HK, rfl, g0, g1, g3, g4, hB⟩ := hrel
    generalize v2.heap.size = B4 at *
    have hk16 : k ≤ 16 := by have := HK.out; omega
    by_cases hlt : k < 16
    · go_wp2_with fail
      refine wp_region3 (Below w.heap.size w) wr.heap.size
        [(B3, fixd (WA .u32 16 r) 105), (w.heap.size, fixd (WA .u32 16 s) 105), (B4, once (WA .u8 64 (pw (bsum s) k)) 97 9 (WA .u8 64 (pw (bsum s) (k + 1)))), ((w.heap.size + 1), fixd (WA .u8 64 (fun _ => 0)) 97)]
        [kv (.slice (some ⟨B4, 0, none⟩) 64 64), kv (.int .i64 (k : Int)), kv (.int .i64 (k : Int)), kv (.pointer (some ⟨B3, k, none⟩)), kv (.int .u32 (r k)), kv (.int .i64 (k : Int)), kv (.pointer (some ⟨w.heap.size, k, none⟩)), kv (.int .u32 (s k)), kv (.int .u32 (bsum s k)), kv (.tuple #[])]
        [.none, .none, .none, .none, .none, .none, .none, .none, .none, .base 2 1]
        [some 11, some 12, some 13, some 14, some 15, some 16, some 17, some 18, some 19, some 20]
        [(1, .pointer (some ⟨w.heap.size, 0, none⟩)), (3, .pointer (some ⟨B3, 0, none⟩)), (4, .pointer (some ⟨B4, 0, none⟩)), (5, .int .i64 (k : Int))]
        [[], [], [], [.slot 2], [.slot 3, .base 0 0], [], [.slot 5], [.slot 6, .base 1 0], [.slot 4, .slot 7], [.slot 0, .slot 1, .slot 8, .base 2 0]]
        [.base 0 0, .base 1 0, .base 2 1, .base 3 0] [11, 12, 13, 14, 15, 16, 17, 18, 19, 20]
        rfl (by kernel_rfl) ⟨rfl, rfl, rfl, rfl, trivial⟩ (Below.drew hB) (Nat.le_refl _) ⟨⟨g3.lt, obIn g3⟩, ⟨g0.lt, obIn g0⟩, ⟨g4.lt, obIn g4⟩, ⟨g1.lt, obIn g1⟩, trivial⟩ ⟨⟨trivial, (show (B3 : Nat) ≠ B4 from by omega), trivial, trivial⟩, ⟨(show (w.heap.size : Nat) ≠ B4 from by omega), trivial, trivial⟩, ⟨(show (B4 : Nat) ≠ (w.heap.size + 1) from by omega), trivial⟩, trivial, trivial⟩ (below_G hB.size ⟨by omega, by omega, by omega, by omega, trivial⟩)
        ⟨
          -- 0
          (fun Q aq ww own hS hBg fr kn => .inl ⟨trivial, fun K hK => wp_value (exec_sl rfl fr.2.2.1 (sl64 _ _)) (hK _ _ ⟨Touch.refl _ _, rfl⟩)⟩),
          -- 1
          (fun Q aq ww own hS hBg fr kn => .inl ⟨trivial, fun K hK => wp_value (exec_move rfl fr.2.2.2.1) (hK _ _ ⟨Touch.refl _ _, rfl⟩)⟩),
          -- 2
          (fun Q aq ww own hS hBg fr kn => .inl ⟨trivial, fun K hK => wp_value (exec_move rfl fr.2.2.2.1) (hK _ _ ⟨Touch.refl _ _, rfl⟩)⟩),
          -- 3
          (fun Q aq ww own hS hBg fr kn => .inl ⟨trivial, fun K hK => wp_value (exec_idxA rfl undSq lenSq sizeSq fr.2.1 kn.1 hlt) (hK _ _ ⟨Touch.refl _ _, rfl⟩)⟩),
          -- 4
          (fun Q aq ww own hS hBg fr kn => .inl ⟨trivial, fun K hK => wp_value (exec_ld rfl kn.1 (run_load32 (ArrAt.cell (obAt kn.2.1) k hlt))) (hK _ _ ⟨Touch.refl _ _, rfl⟩)⟩),
          -- 5
          (fun Q aq ww own hS hBg fr kn => .inl ⟨trivial, fun K hK => wp_value (exec_move rfl fr.2.2.2.1) (hK _ _ ⟨Touch.refl _ _, rfl⟩)⟩),
          -- 6
          (fun Q aq ww own hS hBg fr kn => .inl ⟨trivial, fun K hK => wp_value (exec_idxA rfl undSq lenSq sizeSq fr.1 kn.1 hlt) (hK _ _ ⟨Touch.refl _ _, rfl⟩)⟩),
          -- 7
          (fun Q aq ww own hS hBg fr kn => .inl ⟨trivial, fun K hK => wp_value (exec_ld rfl kn.1 (run_load32 (ArrAt.cell (obAt kn.2.1) k hlt))) (hK _ _ ⟨Touch.refl _ _, rfl⟩)⟩),
          -- 8
          (fun Q aq ww own hS hBg fr kn => .inl ⟨trivial, fun K hK => wp_value (exec_add32 rfl kn.1 kn.2.1) (hK _ _ ⟨Touch.refl _ _, congrArg (Value.int .u32) (HE.out k)⟩)⟩),
          -- 9
          (fun Q aq ww own hS hBg fr kn => .inl ⟨trivial, fun K hK => stepp enterPut rfl (args3 kn.1 kn.2.1 kn.2.2.1) ((putWord_arr B4 64 (pw (bsum s) k) k (bsum s k) ww (obAt kn.2.2.2.1) (by rw [← HE.out k]; exact addw_w _ _) (by omega) (by omega)).mono (fun e w' ⟨he, h1, h2⟩ => ⟨_, he, rfl, h1, h2⟩)) (R := fun u w' => u = .tuple #[] ∧ ArrAt w' B4 .u8 _ 64 (putw (pw (bsum s) k) k (bsum s k)) ∧ Only B4 ww w') (fun v w' ⟨hv, h1, h2⟩ => hK _ _ ⟨⟨touch_only h2, obIn h1⟩, hv⟩)⟩),
          trivial⟩ ?_
      intro vs own v5 hB5 hs5 kn inj
      clear inj
      have G3 := obAt kn.1
      have G0 := obAt kn.2.1
      have G4 := obAt kn.2.2.1
      have G1 : ArrAt v5 (w.heap.size + 1) .u8 97 64 (fun _ => 0) := obAt kn.2.2.2.1
      simp only [putAll, Act.put, List.setIfInBounds_toArray, List.set_cons_zero, List.set_cons_succ]
      go_wp2_with fail
      go_roundg (16 - (k + 1))
      case rel => exact ⟨k + 1, Hid.mk (by omega), by go_num, G0, G1, G3, G4, hB5⟩
      case measure => have := HK.out; omega
    · have hk2 : k = 16 := by omega
      subst hk2
      clear hlt hk16 HK
      rw [HP.out] at g4
      go_wp2_with (first | (refine ld_arr isArr64 g4 (by rfl) ?_) | (refine st_arr isArr64 g1 (by rfl) (by rfl) ?_; intro v4 g5 o5))
      exact bodyPost_ret (v := .agg (WA .u8 64 (blk s))) (res_arr rfl isArr64 g5 rfl) rfl ⟨rfl, hB.trans (o5.below (by omega))⟩
end Go.Proofs.YtbkbcfimpaolmaaGreat
/-
  Own text. What Block and Derive of package chacha give.
-/
namespace Go.Proofs.YtbkbcfimpaolmaaGreat
open Go.RowKit Go.Proofs
set_option maxRecDepth 100000
theorem lets_w (i : Nat) (h : i < 4) : W32 (wrd lets i) := wrd_w lets_byts (by omega)
theorem ksq_w {key : Nat → Int} (hk : Byts 32 key) (n : Nat) : ∀ i, i < 12 → W32 (ksq key n i) := fun i hi => by
  unfold ksq
  split
  · split
    · exact lets_w i (by assumption)
    · exact wrd_w hk (by omega)
  · unfold W32; omega
theorem ssq_w {key nonce : Nat → Int} {c : Int} (hk : Byts 32 key) (hn : Byts 12 nonce) (hc : W32 c) : ∀ i, i < 16 → W32 (ssq key c nonce 3 i) := fun i hi => by
  unfold ssq
  split
  · exact hc
  · split
    · exact wrd_w hn (by omega)
    · exact ksq_w hk 12 i (by omega)
set_option maxHeartbeats 1000000 in
set_option maxRecDepth 100000 in
theorem Block_run (key nonce : Nat → Int) (c : Int) (w : World) (hk : Byts 32 key) (hn : Byts 12 nonce) (hc : W32 c) :
    Calls Tryz.prog 98 #[.agg (WA .u8 32 key), .int .u32 c, .agg (WA .u8 12 nonce)] w fun e w' => e = .returned (.agg (WA .u8 64 (blk (ssq key c nonce 3)))) ∧ Below w.heap.size w w' := by
  have g0 : ArrAt (((w.alloc (.cells (WA .u8 32 key) 27)).alloc (.cells (WA .u8 12 nonce) 65)).alloc (.cells (WA .u8 64 fun _ => 0) 97)) w.heap.size .u8 27 32 key := heap_a31 w _ _ _
  have g1 : ArrAt (((w.alloc (.cells (WA .u8 32 key) 27)).alloc (.cells (WA .u8 12 nonce) 65)).alloc (.cells (WA .u8 64 fun _ => 0) 97)) (w.heap.size + 1) .u8 65 12 nonce := heap_a32 w _ _ _
  have g2 : ArrAt (((w.alloc (.cells (WA .u8 32 key) 27)).alloc (.cells (WA .u8 12 nonce) 65)).alloc (.cells (WA .u8 64 fun _ => 0) 97)) (w.heap.size + 1 + 1) .u8 97 64 (fun _ => 0) := heap_a3 w _ _ _
  have hB : Below w.heap.size w (((w.alloc (.cells (WA .u8 32 key) 27)).alloc (.cells (WA .u8 12 nonce) 65)).alloc (.cells (WA .u8 64 fun _ => 0) 97)) := (((Below.refl _ w).alloc (by simp) _).alloc (by simp) _).alloc (by simp; omega) _
  have hS := fun w => streamSquare_run key nonce c w hk hn
  have hw := ssq_w hk hn hc
  generalize ssq key c nonce 3 = sq at *
  go_enter Tryz.func98, Tryz.ntmps98
  go_wp2_with (first | (refine ld_arr isArr32 g0 (by rfl) ?_) | (refine ld_arr isArr12 g1 (by rfl) ?_))
  refine (hS _).mono ?_
  rintro e v1 ⟨rfl, hb⟩
  replace g2 := g2.kept hb
  replace hB := hB.trans (hb.mono hB.size)
  clear hb g0 g1
  go_wp2_with fail
  refine (block_run sq _ hw).mono ?_
  rintro e v2 ⟨rfl, hb⟩
  replace g2 := g2.kept hb
  replace hB := hB.trans (hb.mono hB.size)
  clear hb
  go_wp2_with (first | (refine st_arr isArr64 g2 (by rfl) (by rfl) ?_; intro v4 g5 o5))
  exact bodyPost_ret (v := .agg (WA .u8 64 (blk sq))) (res_arr rfl isArr64 g5 rfl) rfl ⟨rfl, hB.trans (o5.below (by omega))⟩
end Go.Proofs.YtbkbcfimpaolmaaGreat
/-
  Own text. Copies into arrays; slices of arrays; steps for regions that leave their order open.
-/
namespace Go.Proofs.YtbkbcfimpaolmaaGreat
open Go.RowKit Go.Proofs
set_option maxRecDepth 100000
theorem over_putw (s : Nat → Int) (k : Nat) (v : Int) : over s (4 * k) 4 (b4 v) = putw s k v := by
  funext i
  unfold over putw upd b4
  by_cases h0 : i = 4 * k
  · subst h0; simp
  by_cases h1 : i = 4 * k + 1
  · subst h1; simp
  by_cases h2 : i = 4 * k + 2
  · subst h2; simp
  by_cases h3 : i = 4 * k + 3
  · subst h3; simp
  rw [if_neg (by omega), if_neg h3, if_neg h2, if_neg h1, if_neg h0]
theorem len32 : Tryz.prog.arrayLen 27 = 32 := by kernel_rfl
theorem sizeB32 (w : World) : (sizeOf (Tryz.prog.elem 27)).run Tryz.prog w = .ok 1 w := by kernel_rfl
theorem sl64L (b k : Nat) (w : World) (hk : k < 16) : (Instr.sliceAt 97 (.pointer (some ⟨b, 0, none⟩)) (some (.int .i64 (4 * (k : Int)))) none none).run Tryz.prog w = .ok (.slice (some ⟨b, 4 * k, none⟩) (64 - 4 * k) (64 - 4 * k)) w :=
  slArrL Tryz.underlying97 len64 sizeB64 b (4 * k) w (by omega)
theorem sl32L (b l : Nat) (w : World) (hl : l < 32) : (Instr.sliceAt 27 (.pointer (some ⟨b, 0, none⟩)) (some (.int .i64 (l : Int))) none none).run Tryz.prog w = .ok (.slice (some ⟨b, l, none⟩) (32 - l) (32 - l)) w :=
  slArrL Tryz.underlying27 len32 sizeB32 b l w hl
theorem sl16 (b : Nat) (w : World) : (Instr.sliceAt 92 (.pointer (some ⟨b, 0, none⟩)) none none none).run Tryz.prog w = .ok (.slice (some ⟨b, 0, none⟩) 16 16) w := by simp [go_sem]
theorem sl12 (b : Nat) (w : World) : (Instr.sliceAt 65 (.pointer (some ⟨b, 0, none⟩)) none none none).run Tryz.prog w = .ok (.slice (some ⟨b, 0, none⟩) 12 12) w := by simp [go_sem]
theorem sl16L (b : Nat) (w : World) : (Instr.sliceAt 92 (.pointer (some ⟨b, 0, none⟩)) (some (.int .i64 4)) none none).run Tryz.prog w = .ok (.slice (some ⟨b, 4, none⟩) 12 12) w := by simp [go_sem]
theorem enterBytes (args : Array Value) (w : World) : (callFunc 77 args).run Tryz.prog w = .ok (.enter 77 args) w := by kernel_rfl
end Go.Proofs.YtbkbcfimpaolmaaGreat
/-
  Own text. What Block of the document's answer gives: the block of package chacha's square.
-/
namespace Go.Proofs.YtbkbcfimpaolmaaGreat
open Go.RowKit Go.Proofs
set_option maxRecDepth 100000
/-- The counter's bytes, then the nonce. -/
def inB (c : Int) (nonce : Nat → Int) : Nat → Int := over (over (fun _ => 0) 0 4 (b4 c)) 4 12 nonce
theorem b4_byts (v : Int) : ∀ i, 0 ≤ b4 v i ∧ b4 v i < 256 := fun i => by
  unfold b4
  split
  · omega
  split
  · omega
  split <;> omega
theorem inB_byts {c : Int} {nonce : Nat → Int} (hn : Byts 12 nonce) : Byts 16 (inB c nonce) := fun i hi => by
  unfold inB over
  split
  · exact hn _ (by omega)
  split
  · exact b4_byts _ _
  · simp
theorem wrd_congr {s t : Nat → Int} {i j : Nat} (h : ∀ q, q < 4 → s (4 * i + q) = t (4 * j + q)) : wrd s i = wrd t j := by
  unfold wrd
  rw [show s (4 * i) = t (4 * j) from h 0 (by omega), h 1 (by omega), h 2 (by omega), h 3 (by omega)]
theorem wrd_b4 {c : Int} (hc : W32 c) : wrd (b4 c) 0 = c := by
  unfold W32 at hc
  simp [wrd, b4]
  omega
theorem rsq_low (key inn : Nat → Int) (i : Nat) (h : i < 12) : rsq key inn i = ksq key 12 i := by
  unfold rsq ksq allB
  rw [if_pos h]
  split
  · exact wrd_congr (fun q hq => by unfold cat; rw [if_pos (by omega), if_pos (by omega)])
  · refine wrd_congr (fun q hq => ?_)
    unfold cat
    rw [if_pos (by omega), if_neg (by omega)]
    congr 1
    omega
theorem rsq_high (key inn : Nat → Int) (i : Nat) (h : 12 ≤ i) : rsq key inn i = wrd inn (i - 12) := by
  unfold rsq allB
  refine wrd_congr (fun q hq => ?_)
  unfold cat
  rw [if_neg (by omega)]
  congr 1
  omega
theorem rsq_ssq (key nonce : Nat → Int) (c : Int) (hc : W32 c) : ∀ i, i < 16 → rsq key (inB c nonce) i = ssq key c nonce 3 i := fun i hi => by
  unfold ssq
  by_cases h : i < 12
  · rw [rsq_low _ _ _ h, if_neg (by omega), if_neg (by omega)]
  · rw [rsq_high _ _ _ (by omega)]
    by_cases h12 : i = 12
    · subst h12
      rw [if_pos rfl]
      refine Eq.trans (wrd_congr (fun q hq => ?_)) (wrd_b4 hc)
      unfold inB over
      rw [if_neg (by omega), if_pos (by omega)]
      congr 1
    · rw [if_neg h12, if_pos (by omega)]
      refine wrd_congr (fun q hq => ?_)
      unfold inB over
      rw [if_pos (by omega)]
      congr 1
      omega
theorem rsq_w {key inn : Nat → Int} (hk : Byts 32 key) (hi : Byts 16 inn) : ∀ i, i < 16 → W32 (rsq key inn i) := fun i h => wrd_w (allB_byts hk hi) (by omega)
theorem qrow_congr {s t : Nat → Int} (h : ∀ i, i < 16 → s i = t i) {a b c d : Nat} (ha : a < 16) (hb : b < 16) (hc : c < 16) (hd : d < 16) : ∀ i, i < 16 → qrow s a b c d i = qrow t a b c d i := fun i hi => by
  unfold qrow upd
  rw [h a ha, h b hb, h c hc, h d hd, h i hi]
theorem dbl_congr {s t : Nat → Int} (h : ∀ i, i < 16 → s i = t i) : ∀ i, i < 16 → dbl s i = dbl t i :=
  qrow_congr (qrow_congr (qrow_congr (qrow_congr (qrow_congr (qrow_congr (qrow_congr (qrow_congr h (by decide) (by decide) (by decide) (by decide)) (by decide) (by decide) (by decide) (by decide)) (by decide) (by decide) (by decide) (by decide)) (by decide) (by decide) (by decide) (by decide)) (by decide) (by decide) (by decide) (by decide)) (by decide) (by decide) (by decide) (by decide)) (by decide) (by decide) (by decide) (by decide)) (by decide) (by decide) (by decide) (by decide)
theorem rnds_congr {s t : Nat → Int} (h : ∀ i, i < 16 → s i = t i) : ∀ k i, i < 16 → rnds s k i = rnds t k i
  | 0 => h
  | k + 1 => dbl_congr (rnds_congr h k)
theorem blk_congr {s t : Nat → Int} (h : ∀ i, i < 16 → s i = t i) : blk s = blk t := pw_congr (fun i hi => by unfold bsum; rw [rnds_congr h 10 i hi, h i hi])
set_option maxHeartbeats 4000000 in
set_option maxRecDepth 100000 in
theorem rBlock_run (key nonce : Nat → Int) (c : Int) (w : World) (hk : Byts 32 key) (hn : Byts 12 nonce) (hc : W32 c) :
    Calls Tryz.prog 60 #[.agg (WA .u8 32 key), .int .u32 c, .agg (WA .u8 12 nonce)] w fun e w' => e = .returned (.agg (WA .u8 64 (blk (ssq key c nonce 3)))) ∧ Below w.heap.size w w' := by
  have HP : Hid (blk (ssq key c nonce 3) = pw (bsum (rsq key (inB c nonce))) 16) := Hid.mk (blk_congr (fun i hi => (rsq_ssq key nonce c hc i hi).symm))
  rw [HP.out]
  clear HP
  have hI := inB_byts (c := c) hn
  have hW := rsq_w hk hI
  have hS := fun w => rsquare_run key (inB c nonce) w hk hI
  generalize rsq key (inB c nonce) = s at *
  go_enter Tryz.func60, Tryz.ntmps60
  go_wp2_with fail
  have g0 : ArrAt ((((w.alloc (.cells (WA .u8 32 key) 27)).alloc (.cells (WA .u8 12 nonce) 65)).alloc (.cells (WA .u8 64 fun _ => 0) 97)).alloc (.cells (WA .u8 16 fun _ => 0) 92)) w.heap.size .u8 27 32 key := ArrAt.alloc (heap_a31 w _ _ _) _
  have g1 : ArrAt ((((w.alloc (.cells (WA .u8 32 key) 27)).alloc (.cells (WA .u8 12 nonce) 65)).alloc (.cells (WA .u8 64 fun _ => 0) 97)).alloc (.cells (WA .u8 16 fun _ => 0) 92)) (w.heap.size + 1) .u8 65 12 nonce := ArrAt.alloc (heap_a32 w _ _ _) _
  have g2 : ArrAt ((((w.alloc (.cells (WA .u8 32 key) 27)).alloc (.cells (WA .u8 12 nonce) 65)).alloc (.cells (WA .u8 64 fun _ => 0) 97)).alloc (.cells (WA .u8 16 fun _ => 0) 92)) (w.heap.size + 1 + 1) .u8 97 64 (fun _ => 0) := ArrAt.alloc (heap_a3 w _ _ _) _
  have g3 : ArrAt ((((w.alloc (.cells (WA .u8 32 key) 27)).alloc (.cells (WA .u8 12 nonce) 65)).alloc (.cells (WA .u8 64 fun _ => 0) 97)).alloc (.cells (WA .u8 16 fun _ => 0) 92)) (w.heap.size + 1 + 1 + 1) .u8 92 16 (fun _ => 0) := heap_a4 w _ _ _ _
  have hB : Below w.heap.size w ((((w.alloc (.cells (WA .u8 32 key) 27)).alloc (.cells (WA .u8 12 nonce) 65)).alloc (.cells (WA .u8 64 fun _ => 0) 97)).alloc (.cells (WA .u8 16 fun _ => 0) 92)) := ((((Below.refl _ w).alloc (by simp) _).alloc (by simp) _).alloc (by simp; omega) _).alloc (by simp; omega) _
  refine wp_gen (fun v => ArrAt v w.heap.size .u8 27 32 key ∧ ArrAt v (w.heap.size + 1) .u8 65 12 nonce ∧ ArrAt v (w.heap.size + 1 + 1) .u8 97 64 (fun _ => 0) ∧ ArrAt v (w.heap.size + 1 + 1 + 1) .u8 92 16 (fun _ => 0) ∧ Below w.heap.size w v) ⟨g0, g1, g2, g3, hB⟩ ?_
  clear g0 g1 g2 g3 hB
  rintro v0 ⟨g0, g1, g2, g3, hB⟩
  refine wp_region3 (Below w.heap.size w) v0.heap.size
    [(w.heap.size, fixd (WA .u8 32 key) 27), ((w.heap.size + 1), fixd (WA .u8 12 nonce) 65), ((w.heap.size + 1 + 1), fixd (WA .u8 64 (fun _ => 0)) 97), ((w.heap.size + 1 + 1 + 1), once (WA .u8 16 (fun _ => 0)) 92 4 (WA .u8 16 (over (fun _ => 0) 0 4 (b4 c))))]
    [kv (.slice (some ⟨(w.heap.size + 1 + 1 + 1), 0, none⟩) 16 16), kv (.int .u32 c), kv (.int .i64 c), ks 4 (WA .u8 4 (b4 (c))) 5, .val fun _ => True]
    [.none, .none, .none, .none, .base 3 1]
    [some 12, some 13, some 14, some 15, some 16]
    [(1, .int .u32 c), (7, .pointer (some ⟨(w.heap.size + 1 + 1 + 1), 0, none⟩))]
    [[], [], [.slot 1], [.slot 2], [.slot 0, .slot 3, .cont 3 0, .base 3 0]]
    [.base 0 0, .base 1 0, .base 2 0, .base 3 1] [12, 13, 14, 15, 16]
    rfl (by kernel_rfl) ⟨rfl, rfl, trivial⟩ (Below.drew hB) (Nat.le_refl _) ⟨⟨g0.lt, obIn g0⟩, ⟨g1.lt, obIn g1⟩, ⟨g2.lt, obIn g2⟩, ⟨g3.lt, obIn g3⟩, trivial⟩ ⟨⟨trivial, trivial, (show (w.heap.size : Nat) ≠ (w.heap.size + 1 + 1 + 1) from by omega), trivial⟩, ⟨trivial, (show ((w.heap.size + 1) : Nat) ≠ (w.heap.size + 1 + 1 + 1) from by omega), trivial⟩, ⟨(show ((w.heap.size + 1 + 1) : Nat) ≠ (w.heap.size + 1 + 1 + 1) from by omega), trivial⟩, trivial, trivial⟩ (below_G hB.size ⟨by omega, by omega, by omega, by omega, trivial⟩)
    ⟨
      -- 0
      (fun Q aq ww own hS hBg fr kn => .inl ⟨trivial, fun K hK => wp_value (exec_sl rfl fr.2.1 (sl16 _ _)) (hK _ _ ⟨Touch.refl _ _, rfl⟩)⟩),
      -- 1
      (fun Q aq ww own hS hBg fr kn => .inl ⟨trivial, fun K hK => wp_value (exec_move rfl fr.1) (hK _ _ ⟨Touch.refl _ _, rfl⟩)⟩),
      -- 2
      (fun Q aq ww own hS hBg fr kn => .inl ⟨trivial, fun K hK => wp_value (exec_conv rfl kn.1 (conv32 hc _)) (hK _ _ ⟨Touch.refl _ _, rfl⟩)⟩),
      -- 3
      (fun Q aq ww own hS hBg fr kn => .inl ⟨trivial, fun K hK => stepp enterBytes rfl (args1 kn.1) ((rbytes_run (c) ww hc).mono (fun e w' ⟨he, h1, h2⟩ => ⟨_, he, rfl, h1, h2⟩)) (R := fun u w' => u = .slice (some ⟨ww.heap.size, 0, none⟩) 4 4 ∧ ArrAt w' ww.heap.size .u8 5 4 (b4 (c)) ∧ Below ww.heap.size ww w') (fun v w' ⟨hv, h1, h2⟩ => hK _ _ ⟨touch_below h2, ww.heap.size, Nat.le_refl _, hv, obIn h1⟩)⟩),
      -- 4
      (fun Q aq ww own hS hBg fr kn => .inl ⟨trivial, fun K hK => act_copy rfl kn.1 kn.2.1.1 (obAt kn.2.2.2.1) (m := 4) rfl (by omega) (fun q hq => by rw [Nat.zero_add]; exact ArrAt.cell (obAt kn.2.2.1) q hq) (fun w2 hg ho => hK _ _ ⟨⟨touch_only ho, obIn (hg)⟩, trivial⟩)⟩),
      trivial⟩ ?_
  intro vs own v1 hB1 hs1 kn inj
  clear inj hs1 g0 g1 g2 g3 hB
  have g0 := obAt kn.1
  have g1 := obAt kn.2.1
  have g2 := obAt kn.2.2.1
  have g3 := obAt kn.2.2.2.1
  clear kn
  simp only [putAll, Act.put, List.setIfInBounds_toArray, List.set_cons_zero, List.set_cons_succ]
  go_wp2_with fail
  refine wp_region3 (Below w.heap.size w) v1.heap.size
    [(w.heap.size, fixd (WA .u8 32 key) 27), ((w.heap.size + 1), fixd (WA .u8 12 nonce) 65), ((w.heap.size + 1 + 1), fixd (WA .u8 64 (fun _ => 0)) 97), ((w.heap.size + 1 + 1 + 1), once (WA .u8 16 (over (fun _ => 0) 0 4 (b4 c))) 92 2 (WA .u8 16 (inB c nonce)))]
    [kv (.slice (some ⟨(w.heap.size + 1 + 1 + 1), 4, none⟩) 12 12), kv (.slice (some ⟨(w.heap.size + 1), 0, none⟩) 12 12), .val fun _ => True]
    [.none, .none, .base 3 1]
    [some 17, some 18, some 19]
    [(5, .pointer (some ⟨(w.heap.size + 1), 0, none⟩)), (7, .pointer (some ⟨(w.heap.size + 1 + 1 + 1), 0, none⟩))]
    [[], [], [.slot 0, .slot 1, .base 3 0, .base 1 0]]
    [.base 0 0, .base 2 0, .base 3 1] [17, 18, 19]
    rfl (by kernel_rfl) ⟨rfl, rfl, trivial⟩ (Below.drew hB1) (Nat.le_refl _) ⟨⟨heap_lt g0, obIn g0⟩, ⟨heap_lt g1, obIn g1⟩, ⟨heap_lt g2, obIn g2⟩, ⟨heap_lt g3, obIn g3⟩, trivial⟩ ⟨⟨trivial, trivial, (show (w.heap.size : Nat) ≠ (w.heap.size + 1 + 1 + 1) from by omega), trivial⟩, ⟨trivial, (show ((w.heap.size + 1) : Nat) ≠ (w.heap.size + 1 + 1 + 1) from by omega), trivial⟩, ⟨(show ((w.heap.size + 1 + 1) : Nat) ≠ (w.heap.size + 1 + 1 + 1) from by omega), trivial⟩, trivial, trivial⟩ (below_G hB1.size ⟨by omega, by omega, by omega, by omega, trivial⟩)
    ⟨
      -- 0
      (fun Q aq ww own hS hBg fr kn => .inl ⟨trivial, fun K hK => wp_value (exec_slL rfl fr.2.1 rfl (sl16L _ _)) (hK _ _ ⟨Touch.refl _ _, rfl⟩)⟩),
      -- 1
      (fun Q aq ww own hS hBg fr kn => .inl ⟨trivial, fun K hK => wp_value (exec_sl rfl fr.1 (sl12 _ _)) (hK _ _ ⟨Touch.refl _ _, rfl⟩)⟩),
      -- 2
      (fun Q aq ww own hS hBg fr kn => .inl ⟨trivial, fun K hK => act_copy rfl kn.1 kn.2.1 (obAt kn.2.2.1) (m := 12) rfl (by omega) (fun q hq => by rw [Nat.zero_add]; exact ArrAt.cell (obAt kn.2.2.2.1) q hq) (fun w2 hg ho => hK _ _ ⟨⟨touch_only ho, obIn hg⟩, trivial⟩)⟩),
      trivial⟩ ?_
  intro vs2 own2 v2 hB2 hs2 kn inj
  clear inj hs2 g0 g1 g2 g3 hB1
  have g0 : ArrAt v2 w.heap.size .u8 27 32 key := obAt kn.1
  have g2 : ArrAt v2 (w.heap.size + 1 + 1) .u8 97 64 (fun _ => 0) := obAt kn.2.1
  have g3 : ArrAt v2 (w.heap.size + 1 + 1 + 1) .u8 92 16 (inB c nonce) := obAt kn.2.2.1
  clear kn
  simp only [putAll, Act.put, List.setIfInBounds_toArray, List.set_cons_zero, List.set_cons_succ]
  go_wp2_with (first | (refine ld_arr isArr32 g0 (by rfl) ?_) | (refine ld_arr isArr16 g3 (by rfl) ?_))
  refine (hS _).mono ?_
  rintro e v3 ⟨bs, cs, rfl, hcs, hbs, rs, hb3⟩
  have hz2 := g2.lt
  replace g2 := g2.kept hb3
  replace hB2 := hB2.trans (hb3.mono hB2.size)
  have hz3 : w.heap.size + 1 + 1 < bs := by omega
  clear g0 g3 hb3 hS hI
  go_wp2_with fail
  refine (twenty_run s bs cs _ rs hW).mono ?_
  rintro e v4 ⟨bt, ct, rfl, hct, hbt, rt, hb4⟩
  replace g2 := g2.kept hb4
  have hz4 : bs < bt := Nat.lt_of_lt_of_le rs.lt hbt
  replace rs := rs.below hb4 rs.lt
  replace hB2 := hB2.trans (hb4.mono hB2.size)
  clear hb4
  have HE : Hid (∀ i, addw (s i) (rnds s 10 i) = bsum s i) := Hid.mk (fun i => by unfold bsum addw; rw [Int.add_comm])
  have W1 := rnds_w hW 10
  generalize rnds s 10 = t at *
  go_wp2_with fail
  have hz5 := rt.lt
  go_loopg [11] 16 (fun m i v => ∃ k : Nat, Hid (m + k = 16) ∧ i = .int .i64 k ∧ ArrAt v (w.heap.size + 1 + 1) .u8 97 64 (fun _ => 0) ∧ RowAt v bs .i64 3 16 s ∧ RowAt v bt .i64 3 16 t ∧ ArrAt v v4.heap.size .u8 97 64 (pw (bsum s) k) ∧ Below w.heap.size w v)
  case atStart => exact ⟨0, Hid.mk rfl, rfl, g2.alloc _, rs.alloc _, rt.alloc _, heap_alloc_new v4 _, hB2.alloc hB2.size _⟩
  case round =>
    clear g2 rs rt hB2
    obtain ⟨k, HK, rfl, g2, rs, rt, g4, hB⟩ := hrel
    generalize v4.heap.size = B4 at *
    have hk16 : k ≤ 16 := by have := HK.out; omega
    by_cases hlt : k < 16
    · go_wp2_with fail
      refine wp_region3 (Below w.heap.size w) wr.heap.size
        [((w.heap.size + 1 + 1), fixd (WA .u8 64 (fun _ => 0)) 97), (bs, ⟨rowOb .i64 3 16 s, []⟩), (bt, ⟨rowOb .i64 3 16 t, []⟩), (B4, once (WA .u8 64 (pw (bsum s) k)) 97 14 (WA .u8 64 (pw (bsum s) (k + 1))))]
        [kv (.int .i64 (k : Int)), kv (.int .i64 (4 * (k : Int))), kv (.slice (some ⟨B4, 4 * k, none⟩) (64 - 4 * k) (64 - 4 * k)), kv (.slice (some ⟨bs, 0, none⟩) 16 cs), kv (.int .i64 (k : Int)), kv (.pointer (some ⟨bs, 0 + k, none⟩)), kv (.int .i64 (s k)), kv (.slice (some ⟨bt, 0, none⟩) 16 ct), kv (.int .i64 (k : Int)), kv (.pointer (some ⟨bt, 0 + k, none⟩)), kv (.int .i64 (t k)), kv (.int .i64 (s k + t k)), kv (.int .i64 (bsum s k)), ks 4 (WA .u8 4 (b4 (bsum s k))) 5, .val fun _ => True]
        [.none, .none, .none, .none, .none, .none, .none, .none, .none, .none, .none, .none, .none, .none, .base 3 1]
        [some 29, some 30, some 31, some 32, some 33, some 34, some 35, some 36, some 37, some 38, some 39, some 40, some 41, some 42, some 43]
        [(8, .slice (some ⟨bs, 0, none⟩) 16 cs), (9, .slice (some ⟨bt, 0, none⟩) 16 ct), (10, .pointer (some ⟨B4, 0, none⟩)), (11, .int .i64 (k : Int))]
        [[], [.slot 0], [.slot 1], [], [], [.slot 3, .slot 4], [.slot 5, .base 1 0], [], [], [.slot 7, .slot 8], [.slot 9, .base 2 0], [.slot 6, .slot 10], [.slot 11], [.slot 12], [.slot 2, .slot 13, .cont 13 0, .base 3 0]]
        [.base 0 0, .base 1 0, .base 2 0, .base 3 1] [29, 30, 31, 32, 33, 34, 35, 36, 37, 38, 39, 40, 41, 42, 43]
        rfl (by kernel_rfl) ⟨rfl, rfl, rfl, rfl, trivial⟩ (Below.drew hB) (Nat.le_refl _) ⟨⟨g2.lt, obIn g2⟩, ⟨rs.lt, rs⟩, ⟨rt.lt, rt⟩, ⟨g4.lt, obIn g4⟩, trivial⟩ ⟨⟨trivial, trivial, (show ((w.heap.size + 1 + 1) : Nat) ≠ B4 from by omega), trivial⟩, ⟨trivial, (show (bs : Nat) ≠ B4 from by omega), trivial⟩, ⟨(show (bt : Nat) ≠ B4 from by omega), trivial⟩, trivial, trivial⟩ (below_G hB.size ⟨by omega, by omega, by omega, by omega, trivial⟩)
        ⟨
          -- 0
          (fun Q aq ww own hS hBg fr kn => .inl ⟨trivial, fun K hK => wp_value (exec_move rfl fr.2.2.2.1) (hK _ _ ⟨Touch.refl _ _, rfl⟩)⟩),
          -- 1
          (fun Q aq ww own hS hBg fr kn => .inl ⟨trivial, fun K hK => wp_value (exec_mul rfl rfl kn.1 (by omega) (by omega)) (hK _ _ ⟨Touch.refl _ _, rfl⟩)⟩),
          -- 2
          (fun Q aq ww own hS hBg fr kn => .inl ⟨trivial, fun K hK => wp_value (exec_slL rfl fr.2.2.1 kn.1 (sl64L _ _ _ hlt)) (hK _ _ ⟨Touch.refl _ _, rfl⟩)⟩),
          -- 3
          (fun Q aq ww own hS hBg fr kn => .inl ⟨trivial, fun K hK => wp_value (exec_move rfl fr.1) (hK _ _ ⟨Touch.refl _ _, rfl⟩)⟩),
          -- 4
          (fun Q aq ww own hS hBg fr kn => .inl ⟨trivial, fun K hK => wp_value (exec_move rfl fr.2.2.2.1) (hK _ _ ⟨Touch.refl _ _, rfl⟩)⟩),
          -- 5
          (fun Q aq ww own hS hBg fr kn => .inl ⟨trivial, fun K hK => wp_value (exec_idx rfl Tryz.underlying121 size_int kn.1 kn.2.1 hlt) (hK _ _ ⟨Touch.refl _ _, rfl⟩)⟩),
          -- 6
          (fun Q aq ww own hS hBg fr kn => .inl ⟨trivial, fun K hK => wp_value (exec_ld rfl kn.1 (load_int (cell0 kn.2.1 hlt))) (hK _ _ ⟨Touch.refl _ _, rfl⟩)⟩),
          -- 7
          (fun Q aq ww own hS hBg fr kn => .inl ⟨trivial, fun K hK => wp_value (exec_move rfl fr.2.1) (hK _ _ ⟨Touch.refl _ _, rfl⟩)⟩),
          -- 8
          (fun Q aq ww own hS hBg fr kn => .inl ⟨trivial, fun K hK => wp_value (exec_move rfl fr.2.2.2.1) (hK _ _ ⟨Touch.refl _ _, rfl⟩)⟩),
          -- 9
          (fun Q aq ww own hS hBg fr kn => .inl ⟨trivial, fun K hK => wp_value (exec_idx rfl Tryz.underlying121 size_int kn.1 kn.2.1 hlt) (hK _ _ ⟨Touch.refl _ _, rfl⟩)⟩),
          -- 10
          (fun Q aq ww own hS hBg fr kn => .inl ⟨trivial, fun K hK => wp_value (exec_ld rfl kn.1 (load_int (cell0 kn.2.1 hlt))) (hK _ _ ⟨Touch.refl _ _, rfl⟩)⟩),
          -- 11
          (fun Q aq ww own hS hBg fr kn => .inl ⟨trivial, fun K hK => wp_value (exec_add rfl kn.1 kn.2.1 (sum_lo (hW k hlt) (W1 k hlt)) (sum_hi (hW k hlt) (W1 k hlt))) (hK _ _ ⟨Touch.refl _ _, rfl⟩)⟩),
          -- 12
          (fun Q aq ww own hS hBg fr kn => .inl ⟨trivial, fun K hK => wp_value (exec_rem rfl kn.1 (sum_nn (hW k hlt) (W1 k hlt)) (sum_hi (hW k hlt) (W1 k hlt))) (hK _ _ ⟨Touch.refl _ _, congrArg (Value.int .i64) (HE.out k)⟩)⟩),
          -- 13
          (fun Q aq ww own hS hBg fr kn => .inl ⟨trivial, fun K hK => stepp enterBytes rfl (args1 kn.1) ((rbytes_run (bsum s k) ww (by rw [← HE.out k]; exact addw_w _ _)).mono (fun e w' ⟨he, h1, h2⟩ => ⟨_, he, rfl, h1, h2⟩)) (R := fun u w' => u = .slice (some ⟨ww.heap.size, 0, none⟩) 4 4 ∧ ArrAt w' ww.heap.size .u8 5 4 (b4 (bsum s k)) ∧ Below ww.heap.size ww w') (fun v w' ⟨hv, h1, h2⟩ => hK _ _ ⟨touch_below h2, ww.heap.size, Nat.le_refl _, hv, obIn h1⟩)⟩),
          -- 14
          (fun Q aq ww own hS hBg fr kn => .inl ⟨trivial, fun K hK => act_copy rfl kn.1 kn.2.1.1 (obAt kn.2.2.2.1) (m := 4) (by show 4 = min 4 (64 - 4 * k); omega) (by omega) (fun q hq => by rw [Nat.zero_add]; exact ArrAt.cell (obAt kn.2.2.1) q hq) (fun w2 hg ho => hK _ _ ⟨⟨touch_only ho, obIn ((show _ = _ from by rw [show pw (bsum s) (k + 1) = over (pw (bsum s) k) (4 * k) 4 (b4 (bsum s k)) from (over_putw _ _ _).symm]; exact hg))⟩, trivial⟩)⟩),
          trivial⟩ ?_
      intro vs5 own5 v5 hB5 hs5 kn inj
      clear inj
      have G2 : ArrAt v5 (w.heap.size + 1 + 1) .u8 97 64 (fun _ => 0) := obAt kn.1
      have Rs : RowAt v5 bs .i64 3 16 s := kn.2.1
      have Rt : RowAt v5 bt .i64 3 16 t := kn.2.2.1
      have G4 : ArrAt v5 B4 .u8 97 64 (pw (bsum s) (k + 1)) := obAt kn.2.2.2.1
      simp only [putAll, Act.put, List.setIfInBounds_toArray, List.set_cons_zero, List.set_cons_succ]
      go_wp2_with fail
      go_roundg (16 - (k + 1))
      case rel => exact ⟨k + 1, Hid.mk (by omega), by go_num, G2, Rs, Rt, G4, hB5⟩
      case measure => have := HK.out; omega
    · have hk2 : k = 16 := by omega
      subst hk2
      clear hlt hk16 HK
      go_wp2_with (first | (refine ld_arr isArr64 g4 (by rfl) ?_) | (refine st_arr isArr64 g2 (by rfl) (by rfl) ?_; intro v6 g5 o5))
      exact bodyPost_ret (v := .agg (WA .u8 64 (pw (bsum s) 16))) (res_arr rfl isArr64 g5 rfl) rfl ⟨rfl, hB.trans (o5.below (by omega))⟩
end Go.Proofs.YtbkbcfimpaolmaaGreat
/-
  Own text. What Derive of package chacha gives.
-/
namespace Go.Proofs.YtbkbcfimpaolmaaGreat
open Go.RowKit Go.Proofs
set_option maxRecDepth 100000
/-- The square of a key and of k words. -/
def dsq (key inn : Nat → Int) (k : Nat) (i : Nat) : Int := if 12 ≤ i ∧ i < 12 + k then wrd inn (i - 12) else ksq key 12 i
theorem dsq_0 (key inn : Nat → Int) : dsq key inn 0 = ksq key 12 := by
  funext i
  unfold dsq
  rw [if_neg (by omega)]
theorem dsq_step (key inn : Nat → Int) (k : Nat) : upd (dsq key inn k) (12 + k) (wrd inn k) = dsq key inn (k + 1) := by
  funext i
  unfold upd dsq
  by_cases e : i = 12 + k
  · subst e; rw [if_pos rfl, if_pos (by omega)]; congr 1; omega
  · rw [if_neg e]
    by_cases h : 12 ≤ i ∧ i < 12 + k
    · rw [if_pos h, if_pos (by omega)]
    · rw [if_neg h, if_neg (by omega)]
theorem dsq_w {key inn : Nat → Int} (hk : Byts 32 key) (hi : Byts 16 inn) : ∀ i, i < 16 → W32 (dsq key inn 4 i) := fun i h => by
  unfold dsq
  split
  · exact wrd_w hi (by omega)
  · exact ksq_w hk 12 i (by omega)
theorem dsq_rsq (key inn : Nat → Int) : ∀ i, i < 16 → dsq key inn 4 i = rsq key inn i := fun i h => by
  unfold dsq
  split
  · rw [rsq_high _ _ _ (by omega)]
  · rw [rsq_low _ _ _ (by omega)]
/-- The bytes of the key that is derived, 2 k words of it. -/
def dv (f : Nat → Int) : Nat → Nat → Int
  | 0 => fun _ => 0
  | k + 1 => putw (putw (dv f k) k (f k)) (4 + k) (f (12 + k))
theorem dv_congr {f g : Nat → Int} (h : ∀ i, i < 16 → f i = g i) : ∀ k, k ≤ 4 → dv f k = dv g k
  | 0, _ => rfl
  | k + 1, hk => by unfold dv; rw [dv_congr h k (by omega), h k (by omega), h (12 + k) (by omega)]
def der (key inn : Nat → Int) : Nat → Int := dv (rnds (dsq key inn 4) 10) 4
end Go.Proofs.YtbkbcfimpaolmaaGreat
/-
  Own text. What Derive of the document's answer gives: the same.
-/
namespace Go.Proofs.YtbkbcfimpaolmaaGreat
open Go.RowKit Go.Proofs
set_option maxRecDepth 100000

end Go.Proofs.YtbkbcfimpaolmaaGreat
/-
  Own text. The library's contracts for strings.Builder at this program (laid by the command of the guide, in plain words).
-/
namespace Go.Proofs.YtbkbcfimpaolmaaGreat
open Go.Proofs
set_option maxRecDepth 100000
open Go.Shelf
def lays169_ren : Go.Shelf.Ren := ⟨fun | 169 => 73 | n => n, fun | 70 => 107 | 9 => 9 | 0 => 0 | 72 => 109 | 37 => 67 | 127 => 133 | 3 => 3 | 5 => 5 | n => n, fun | n => n⟩
theorem lays169 : Go.Proofs.Lays.n169 Tryz.prog lays169_ren := {
  mixed := by kernel_rfl
  f169 := Tryz.func73.trans (congrArg some (by kernel_rfl))
  t0 := Tryz.underlying0
  a0 := Tryz.isAgg0
  z0 := Tryz.sizeOf0
  v0 := Tryz.zeroValue0
  t3 := Tryz.underlying3
  a3 := Tryz.isAgg3
  z3 := Tryz.sizeOf3
  v3 := Tryz.zeroValue3
  t9 := Tryz.underlying9
  a9 := Tryz.isAgg9
  z9 := Tryz.sizeOf9
  v9 := Tryz.zeroValue9
  t37 := Tryz.underlying67
  a37 := Tryz.isAgg67
  z37 := Tryz.sizeOf67
  v37 := Tryz.zeroValue67
  t70 := Tryz.underlying107
  a70 := Tryz.isAgg107
  z70 := Tryz.sizeOf107
  v70 := Tryz.zeroValue107
  t72 := Tryz.underlying109
  a72 := Tryz.isAgg109
  z72 := Tryz.sizeOf109
  v72 := Tryz.zeroValue109
  t127 := Tryz.underlying133
  a127 := Tryz.isAgg133
  z127 := Tryz.sizeOf133
  v127 := Tryz.zeroValue133 }
theorem Builder_Extra_169 : Builder.Extra Tryz.prog lays169_ren := {
  sizeBuilder := by kernel_rfl
  liesBuilder := by kernel_rfl
  t5 := Tryz.underlying5
  a5 := Tryz.isAgg5
  z5 := Tryz.sizeOf5
  v5 := Tryz.zeroValue5
  infoByte := by kernel_rfl
  cellsByte := by kernel_rfl
  sizeByte := by kernel_rfl
  neB5 := by decide }
open Go.RowKit in
theorem Builder_String_any (B b : Nat) (l : List UInt8) (w : World) (h : Lib.IsBuilder 109 5 B b (Lib.byteCells l) w) (hBw : B ≤ w.heap.size) :
    Calls Tryz.prog 73 #[.pointer (some ⟨b, 0, none⟩)] w fun e w' => e = .returned (.string ⟨l.toArray⟩) ∧ Below B w w' := Any.Builder_String_any lays169 Builder_Extra_169 B b l w h hBw
def lays165_ren : Go.Shelf.Ren := ⟨fun | 165 => 69 | 240 => 91 | 241 => 92 | 276 => 102 | 277 => 103 | n => n, fun | 70 => 107 | 3 => 3 | 0 => 0 | 4 => 4 | 9 => 9 | 20 => 20 | 72 => 109 | 37 => 67 | 164 => 142 | 5 => 5 | n => n, fun | n => n⟩
theorem lays165 : Go.Proofs.Lays.n165 Tryz.prog lays165_ren := {
  mixed := by kernel_rfl
  f165 := Tryz.func69.trans (congrArg some (by kernel_rfl))
  f240 := Tryz.func91.trans (congrArg some (by kernel_rfl))
  f241 := Tryz.func92.trans (congrArg some (by kernel_rfl))
  f276 := Tryz.func102.trans (congrArg some (by kernel_rfl))
  f277 := Tryz.func103.trans (congrArg some (by kernel_rfl))
  t0 := Tryz.underlying0
  a0 := Tryz.isAgg0
  z0 := Tryz.sizeOf0
  v0 := Tryz.zeroValue0
  t3 := Tryz.underlying3
  a3 := Tryz.isAgg3
  z3 := Tryz.sizeOf3
  v3 := Tryz.zeroValue3
  t4 := Tryz.underlying4
  a4 := Tryz.isAgg4
  z4 := Tryz.sizeOf4
  v4 := Tryz.zeroValue4
  t9 := Tryz.underlying9
  a9 := Tryz.isAgg9
  z9 := Tryz.sizeOf9
  v9 := Tryz.zeroValue9
  t20 := Tryz.underlying20
  a20 := Tryz.isAgg20
  z20 := Tryz.sizeOf20
  v20 := Tryz.zeroValue20
  t37 := Tryz.underlying67
  a37 := Tryz.isAgg67
  z37 := Tryz.sizeOf67
  v37 := Tryz.zeroValue67
  t70 := Tryz.underlying107
  a70 := Tryz.isAgg107
  z70 := Tryz.sizeOf107
  v70 := Tryz.zeroValue107
  t72 := Tryz.underlying109
  a72 := Tryz.isAgg109
  z72 := Tryz.sizeOf109
  v72 := Tryz.zeroValue109
  t164 := Tryz.underlying142
  a164 := Tryz.isAgg142
  z164 := Tryz.sizeOf142
  v164 := Tryz.zeroValue142 }
theorem Builder_Extra_165 : Builder.Extra Tryz.prog lays165_ren := {
  sizeBuilder := by kernel_rfl
  liesBuilder := by kernel_rfl
  t5 := Tryz.underlying5
  a5 := Tryz.isAgg5
  z5 := Tryz.sizeOf5
  v5 := Tryz.zeroValue5
  infoByte := by kernel_rfl
  cellsByte := by kernel_rfl
  sizeByte := by kernel_rfl
  neB5 := by decide }
open Go.RowKit in
theorem Builder_Grow_fresh (B b n : Nat) (w : World) (hB : B ≤ b) (hbk : w.heap[b]? = some (.cells #[.pointer none, .slice none 0 0] 109 (0, 0))) (hBw : B ≤ w.heap.size) (hn : n ≤ 281474976710656) :
    Calls Tryz.prog 69 #[.pointer (some ⟨b, 0, none⟩), .int .i64 n] w fun e w' => e = .returned (.tuple #[]) ∧ (Lib.BuilderAt 109 5 B b (.pointer (some ⟨b, 0, none⟩)) [] w' ∧ Below B w w') := Any.Builder_Grow_fresh lays165 Builder_Extra_165 B b n w hB hbk hBw hn
open Go.RowKit in
theorem copyCheck_used (b : Nat) (w : World) (h0 : w.cell? ⟨b, 0, none⟩ = some (.pointer (some ⟨b, 0, none⟩))) :
    Calls Tryz.prog 91 #[.pointer (some ⟨b, 0, none⟩)] w fun e w' => e = .returned (.tuple #[]) ∧ w' = w := Any.Builder_copyCheck_used { lays165 with } Builder_Extra_165.toX72 b w h0
end Go.Proofs.YtbkbcfimpaolmaaGreat
/-
  Own text. What (*strings.Builder).Write does to a builder that a call has made itself; texts as numbers.
-/
namespace Go.Proofs.YtbkbcfimpaolmaaGreat
open Go.RowKit Go.Proofs
set_option maxRecDepth 100000
/-- A builder that holds n bytes. -/
def Bld (w : World) (B b n : Nat) (f : Nat → Int) : Prop := Lib.BuilderAt 109 5 B b (.pointer (some ⟨b, 0, none⟩)) (nums .u8 n f) w
theorem Bld.kept {w w' : World} {B b n : Nat} {f : Nat → Int} (h : Bld w B b n f) (hb : Below w.heap.size w w') : Bld w' B b n f := by
  obtain ⟨hB, v, hk, ho, hn⟩ := h
  exact ⟨hB, v, (hb.block b (heap_lt hk)).trans hk, own_kept ho hb, hn⟩
theorem Bld.congr {w : World} {B b n : Nat} {f g : Nat → Int} (h : Bld w B b n f) (e : ∀ i, i < n → f i = g i) : Bld w B b n g := by
  unfold Bld; rw [← nums_congr e]; exact h
theorem Bld.lt {w : World} {B b n : Nat} {f : Nat → Int} (h : Bld w B b n f) : b < w.heap.size := by
  obtain ⟨_, v, hk, _⟩ := h
  exact heap_lt hk
theorem neB5 : 109 ≠ 5 := by decide
set_option maxHeartbeats 1000000 in
theorem write_run (B b n m c bd off : Nat) (f r : Nat → Int) (w : World) (h : Bld w B b n f) (hc : ∀ j, j < m → w.cell? ⟨bd, off + j, none⟩ = some (.int .u8 (r j))) (hlen : n + m ≤ 140737488355328) (hBw : B ≤ w.heap.size) :
    Calls Tryz.prog 72 #[.pointer (some ⟨b, 0, none⟩), .slice (some ⟨bd, off, none⟩) m c] w fun e w' => e = .returned (.tuple #[.int .i64 m, .nilIface]) ∧ Bld w' B b (n + m) (cat n f r) ∧ Below B w w' := by
  obtain ⟨i0, hi, hz0, hz1, hz2⟩ := info_parts infoByte
  obtain ⟨hB, v, hbk, hown, hne⟩ := h
  rw [nums_len] at hown
  have c0 : w.cell? ⟨b, 0, none⟩ = some (.pointer (some ⟨b, 0, none⟩)) := by rw [Lib.cell_of_heap hbk]; rfl
  have c1 : w.cell? ⟨b, 1, none⟩ = some v := by rw [Lib.cell_of_heap hbk]; rfl
  have HC : Hid (∀ j u, (nums .u8 m r)[j]? = some u → w.cell? ((⟨bd, off, none⟩ : Addr).add j) = some u) := Hid.mk (fun j u hj => by
    obtain ⟨hj2, rfl⟩ := nums_get hj
    rw [Addr.add_lit]
    exact hc j hj2)
  clear hc
  go_enter Tryz.func72, Tryz.ntmps72
  go_wp2_with fail
  refine (copyCheck_used b w c0).mono ?_
  rintro e w1 ⟨rfl, rfl⟩
  go_wp2_with (at_builtin; refine wpList_append_own w1 rfl _ _ 67 rfl B 5 i0 (.int .u8 0) 1 1 Tryz.underlying67 hi hz0 hz1 hz2 rfl (by decide) _ n _ rfl hown ⟨bd, off, none⟩ m c (nums .u8 m r) rfl (by rw [nums_len]; omega) HC.out nums_one ?c3 ?c4 hBw ?_)
  case c3 => unfold maxLen; omega
  case c4 => omega
  intro v' w2 hown' hgrow _
  clear HC
  rw [nums_cat] at hown'
  have hlt : b < w1.heap.size := heap_lt hbk
  have hb2 : w2.heap[b]? = some (.cells #[.pointer (some ⟨b, 0, none⟩), v] 109 (0, 0)) := by
    rw [hgrow.block b hlt (fun e => hne e.symm)]
    exact hbk
  have d0 : w2.cell? ⟨b, 0, none⟩ = some (.pointer (some ⟨b, 0, none⟩)) := by rw [Lib.cell_of_heap hb2]; rfl
  have d1 : w2.cell? ⟨b, 1, none⟩ = some v := by rw [Lib.cell_of_heap hb2]; rfl
  have f1 : w2.frozen? ⟨b, 1, none⟩ = false := Lib.frozen_of_heap hb2 1
  obtain ⟨ao, n', cap, rfl⟩ : ∃ ao n' cap, v' = .slice ao n' cap := by
    rcases hown'.2 with ⟨hv, _⟩ | ⟨g, cap, cur, hv, _⟩
    · exact ⟨_, _, _, hv⟩
    · exact ⟨_, _, _, hv⟩
  go_wp2
  exact bodyPost_ret (v := .tuple #[.int .i64 m, .nilIface]) (by simp [results, Tryz.results72, go_sem]) rfl
    ⟨rfl, Lib.BuilderAt.put hB hb2 (by rw [nums_len]; exact hown') neB5, (Below.grow hgrow hBw (own_base hown)).setCell (p := ⟨b, 1, none⟩) hB _⟩
theorem string_run (B b n : Nat) (f : Nat → Int) (w : World) (h : Bld w B b n f) (hf : ∀ j, j < n → 0 ≤ f j ∧ f j < 256) (hBw : B ≤ w.heap.size) :
    Calls Tryz.prog 73 #[.pointer (some ⟨b, 0, none⟩)] w fun e w' => e = .returned (.string (mkS n f)) ∧ Below B w w' :=
  Builder_String_any B b (bytesL n f) w (.inr (by rw [← nums_bytes hf]; exact h)) hBw
theorem grow_run (B b n : Nat) (w : World) (hB : B ≤ b) (hbk : w.heap[b]? = some (.cells #[.pointer none, .slice none 0 0] 109 (0, 0))) (hBw : B ≤ w.heap.size) (hn : n ≤ 281474976710656) :
    Calls Tryz.prog 69 #[.pointer (some ⟨b, 0, none⟩), .int .i64 n] w fun e w' => e = .returned (.tuple #[]) ∧ Bld w' B b 0 (fun _ => 0) ∧ Below B w w' := Builder_Grow_fresh B b n w hB hbk hBw hn
end Go.Proofs.YtbkbcfimpaolmaaGreat
/-
  Own text. What Stream of package chacha gives.
-/
namespace Go.Proofs.YtbkbcfimpaolmaaGreat
open Go.RowKit Go.Proofs
set_option maxRecDepth 100000
/-- Byte j of the key stream. -/
def ksb (key nonce : Nat → Int) (c : Int) (j : Nat) : Int := blk (ssq key ((c + (j / 64 : Nat)) % 4294967296) nonce 3) (j % 64)
/-- Byte j of a text under the key stream. -/
def strm (key nonce : Nat → Int) (c : Int) (s : ByteArray) (j : Nat) : Int := xorw (txt s j) (ksb key nonce c j)
theorem ssq_12 (key nonce : Nat → Int) (c d : Int) (k : Nat) : upd (ssq key c nonce k) 12 d = ssq key d nonce k := by
  funext i
  unfold upd ssq
  split <;> rfl
theorem ahead_sq (key nonce : Nat → Int) (c : Int) (k : Nat) : upd (ssq key c nonce 3) 12 (addw (ssq key c nonce 3 12) ((k : Int) % 4294967296)) = ssq key ((c + (k : Nat)) % 4294967296) nonce 3 := by
  rw [ssq_12, show ssq key c nonce 3 12 = c from rfl]
  unfold addw
  congr 1
  omega
/-- A block, its first j bytes xor those of a text. -/
def xo (b p : Nat → Int) (j : Nat) (i : Nat) : Int := if i < j then xorw (b i) (p i) else b i
theorem xo_step (b p : Nat → Int) (j : Nat) : upd (xo b p j) j (xorw (xo b p j j) (p j)) = xo b p (j + 1) := by
  funext i
  unfold upd xo
  by_cases e : i = j
  · subst e; simp
  · rw [if_neg e]
    by_cases h : i < j
    · rw [if_pos h, if_pos (by omega)]
    · rw [if_neg h, if_neg (by omega)]
theorem xo_b {b p : Nat → Int} {n : Nat} (j : Nat) (hb : ∀ i, i < n → 0 ≤ b i ∧ b i < 256) (hp : ∀ i, 0 ≤ p i ∧ p i < 256) : ∀ i, i < n → 0 ≤ xo b p j i ∧ xo b p j i < 256 := fun i hi => by
  unfold xo
  split
  · exact xorw_b (hb i hi) (hp i)
  · exact hb i hi
theorem blk_b (s : Nat → Int) : Byts 64 (blk s) := pw_byts _ _ _
theorem sl64H (b j : Nat) (w : World) (hj : j ≤ 64) : (Instr.sliceAt 97 (.pointer (some ⟨b, 0, none⟩)) none (some (.int .i64 (j : Int))) none).run Tryz.prog w = .ok (.slice (some ⟨b, 0, none⟩) j 64) w := by
  rw [run_sliceAt_array_h (P := Tryz.prog) w 97 ⟨b, 0, none⟩ Tryz.underlying97 .i64 (j : Int) (by omega) (by rw [len64]; omega), sizeB64, len64]
  simp only [Result.andThen_ok, slicedAt, Int.toNat_natCast, Nat.zero_mul]
  rw [if_neg (by omega), Addr.add_lit]
  simp
theorem strm_b (key nonce : Nat → Int) (c : Int) (s : ByteArray) (j : Nat) : 0 ≤ strm key nonce c s j ∧ strm key nonce c s j < 256 := xorw_b (txt_b s j) (blk_b _ _ (Nat.mod_lt _ (by decide)))
set_option maxHeartbeats 4000000 in
set_option maxRecDepth 100000 in
theorem Stream_run (key nonce : Nat → Int) (c : Int) (s : ByteArray) (w : World) (hk : Byts 32 key) (hn : Byts 12 nonce) (_hc : W32 c) (hs : s.size ≤ 140737488355328) :
    Calls Tryz.prog 55 #[.agg (WA .u8 32 key), .int .u32 c, .agg (WA .u8 12 nonce), .string s] w fun e w' => e = .returned (.string (mkS s.size (strm key nonce c s))) ∧ Below w.heap.size w w' := by
  have g0 : ArrAt ((w.alloc (.cells (WA .u8 32 key) 27)).alloc (.cells (WA .u8 12 nonce) 65)) w.heap.size .u8 27 32 key := heap_alloc2_old w _ _
  have g1 : ArrAt ((w.alloc (.cells (WA .u8 32 key) 27)).alloc (.cells (WA .u8 12 nonce) 65)) (w.heap.size + 1) .u8 65 12 nonce := heap_alloc2_new w _ _
  have hB : Below w.heap.size w ((w.alloc (.cells (WA .u8 32 key) 27)).alloc (.cells (WA .u8 12 nonce) 65)) := ((Below.refl _ w).alloc (by simp) _).alloc (by simp) _
  go_enter Tryz.func55, Tryz.ntmps55
  go_wp2_with (first | (refine ld_arr isArr32 g0 (by rfl) ?_) | (refine ld_arr isArr12 g1 (by rfl) ?_))
  refine (streamSquare_run key nonce c _ hk hn).mono ?_
  rintro e v1 ⟨rfl, hb⟩
  replace hB := hB.trans (hb.mono hB.size)
  clear hb g0 g1
  go_wp2_with (first | (refine st_arr (s' := fun _ => 0) (k' := .u32) isSq (heap_alloc_new v1 _) (by rfl) (by rfl) ?_; intro v2 g3 o3; refine Hid.out ?_))
  have hz9 : w.heap.size ≤ v1.heap.size := hB.size
  replace hB := (hB.alloc hB.size _).trans (o3.below hB.size)
  have hz1 := hB.size
  clear o3
  generalize v1.heap.size = b9 at *
  refine Hid.mk ?_
  go_wp2_with fail
  refine (grow_run v2.heap.size v2.heap.size s.size _ (Nat.le_refl _) (heap_alloc_new v2 _) (by simp) (by omega)).mono ?_
  rintro e v3 ⟨rfl, hD, hb3⟩
  have hz10 := g3.lt
  replace g3 := (g3.alloc _).below hb3 hz10
  replace hB := (hB.alloc hB.size _).trans (hb3.mono hz1)
  have hz3 : v2.heap.size ≤ v3.heap.size := Nat.le_trans (by simp) hb3.size
  clear hb3 hz1
  generalize v2.heap.size = b10 at *
  obtain ⟨N, hN⟩ : ∃ N : Nat, (s.size + 63) / 64 = N := ⟨_, rfl⟩
  have hq : ((s.size : Int) + 64 - 1).tdiv 64 = (N : Int) := by rw [Int.tdiv_eq_ediv_of_nonneg (by omega)]; omega
  have hN2 : (N : Int) < 9223372036854775807 := by omega
  go_wp2_with fail
  go_loopg [28] N (fun m i v => ∃ k : Nat, Hid (m + k = N) ∧ i = .int .i64 k ∧ ArrAt v b9 .u32 105 16 (ssq key c nonce 3) ∧ Bld v b10 b10 (min (64 * k) s.size) (strm key nonce c s) ∧ Below w.heap.size w v ∧ b10 ≤ v.heap.size)
  case atStart => exact ⟨0, Hid.mk (by omega), rfl, g3, by simpa using hD.congr (fun i hi => by omega), hB, hz3⟩
  case round =>
    clear g3 hD hB hz3
    obtain ⟨k, HK, rfl, g3, hD, hB, hz3⟩ := hrel
    have hkN : k ≤ N := by have := HK.out; omega
    by_cases hlt : k < N
    · have hks : 64 * k < s.size := by omega
      go_wp2_with (first | (refine ld_arr isSq g3 (by rfl) ?_))
      refine (ahead_run _ _ _).mono ?_
      rintro e v4 ⟨rfl, hb4⟩
      rw [ahead_sq]
      have hW : ∀ i, i < 16 → W32 (ssq key ((c + (k : Nat)) % 4294967296) nonce 3 i) := ssq_w hk hn (by unfold W32; omega)
      have HB : Hid (blk (ssq key ((c + (k : Nat)) % 4294967296) nonce 3) = fun i => blk (ssq key ((c + (k : Nat)) % 4294967296) nonce 3) i) := Hid.mk rfl
      go_wp2_with fail
      refine (block_run _ _ hW).mono ?_
      rintro e v5 ⟨rfl, hb5⟩
      have hb45 : Below wr.heap.size wr v5 := hb4.trans (hb5.mono hb4.size)
      replace g3 := g3.kept hb45
      replace hD := hD.kept hb45
      replace hB := hB.trans (hb45.mono hB.size)
      replace hz3 := Nat.le_trans hz3 hb45.size
      clear hb4 hb5 hb45 hW HB
      have hbk := blk_b (ssq key ((c + (k : Nat)) % 4294967296) nonce 3)
      obtain ⟨bk, HK2⟩ : ∃ bk, Hid (blk (ssq key ((c + (k : Nat)) % 4294967296) nonce 3) = bk) := ⟨_, Hid.mk rfl⟩
      rw [HK2.out] at hbk ⊢
      have HS := Hid.mk (extract_size s (k * 64))
      have HT : Hid (∀ j, k * 64 + j < s.size → txt (s.extract (k * 64) s.size) j = txt s (k * 64 + j)) := Hid.mk (fun j hj => txt_extract s (k * 64) j hj)
      generalize s.extract (k * 64) s.size = pc at *
      obtain ⟨n, HN⟩ : ∃ n : Nat, Hid (min pc.size 64 = n) := ⟨_, Hid.mk rfl⟩
      have hmin : min (pc.size : Int) 64 = (n : Int) := by have := HN.out; omega
      have hn64 : n ≤ 64 := by have := HN.out; omega
      have hnp : n ≤ pc.size := by have := HN.out; omega
      have hpsz : pc.size ≤ 140737488355328 := by have := HS.out; omega
      go_wp2_with (first | (refine st_arr (s' := fun _ => 0) (k' := .u8) isArr64 (heap_alloc_new v5 _) (by rfl) (by rfl) ?_; intro v6 g6 o6; refine Hid.out ?_))
      have hb6 : Below v5.heap.size v5 v6 := ((Below.refl _ v5).alloc (Nat.le_refl _) _).trans (o6.below (Nat.le_refl _))
      clear o6
      refine Hid.mk ?_
      go_wp2_with fail
      rw [show bk = xo bk (txt pc) 0 from by funext i; unfold xo; rw [if_neg (by omega)]] at g6
      obtain ⟨b13, hb13⟩ : ∃ b, v5.heap.size = b := ⟨_, rfl⟩
      rw [hb13] at g6 hb6 ⊢
      generalize wr = wo at *
      generalize gk = go at *
      go_loopg [44] n (fun m i v => ∃ j : Nat, Hid (m + j = n) ∧ i = .int .i64 j ∧ ArrAt v b13 .u8 97 64 (xo bk (txt pc) j) ∧ Below b13 v5 v)
      case atStart => exact ⟨0, Hid.mk (by omega), rfl, g6, hb6⟩
      case round =>
        clear g6 hb6
        obtain ⟨j, HJ, rfl, g6, hb6⟩ := hrel
        have hjn : j ≤ n := by have := HJ.out; omega
        by_cases hjl : j < n
        · have hj64 : j < 64 := by omega
          have hjp : j < pc.size := by omega
          go_wp2_with fail
          refine wp_region3 (Below b13 v5) wr.heap.size
            [(b13, once (WA .u8 64 (xo bk (txt pc) j)) 97 8 (WA .u8 64 (xo bk (txt pc) (j + 1))))]
            [kv (.int .i64 (j : Int)), kv (.pointer (some ⟨b13, j, none⟩)), kv (.int .u8 (xo bk (txt pc) j j)), kv (.string pc), kv (.int .i64 (j : Int)), kv (.int .u8 (txt pc j)), kv (.int .u8 (xorw (xo bk (txt pc) j j) (txt pc j))), kv (.pointer (some ⟨b13, j, none⟩)), .val fun _ => True]
            [.none, .none, .none, .none, .none, .none, .none, .none, .base 0 1]
            [some 47, some 48, some 49, some 50, some 51, some 52, some 53, some 54, none]
            [(12, .string pc), (13, .pointer (some ⟨b13, 0, none⟩)), (15, .int .i64 (j : Int))]
            [[], [.slot 0], [.slot 1, .base 0 0], [], [], [.slot 3, .slot 4], [.slot 2, .slot 5], [.slot 0], [.slot 7, .slot 6, .base 0 0]]
            [.base 0 1] [47, 48, 49, 50, 51, 52, 53, 54]
            rfl (by kernel_rfl) ⟨rfl, rfl, rfl, trivial⟩ (Below.drew hb6) (Nat.le_refl _) ⟨⟨g6.lt, obIn g6⟩, trivial⟩ ⟨trivial, trivial⟩ (below_Gc (Nat.le_of_eq hb13.symm) (hb13 ▸ hb6.size) ⟨Nat.le_refl _, trivial⟩)
            ⟨
              -- 0
              (fun Q aq ww own hS hBg fr kn => .inl ⟨trivial, fun K hK => wp_value (exec_move rfl fr.2.2.1) (hK _ _ ⟨Touch.refl _ _, rfl⟩)⟩),
              -- 1
              (fun Q aq ww own hS hBg fr kn => .inl ⟨trivial, fun K hK => wp_value (exec_idxA rfl Tryz.underlying97 len64 sizeB64 fr.2.1 kn.1 hj64) (hK _ _ ⟨Touch.refl _ _, rfl⟩)⟩),
              -- 2
              (fun Q aq ww own hS hBg fr kn => .inl ⟨trivial, fun K hK => wp_value (exec_ld rfl kn.1 (run_load8 (ArrAt.cell (obAt kn.2.1) j hj64))) (hK _ _ ⟨Touch.refl _ _, rfl⟩)⟩),
              -- 3
              (fun Q aq ww own hS hBg fr kn => .inl ⟨trivial, fun K hK => wp_value (exec_move rfl fr.1) (hK _ _ ⟨Touch.refl _ _, rfl⟩)⟩),
              -- 4
              (fun Q aq ww own hS hBg fr kn => .inl ⟨trivial, fun K hK => wp_value (exec_move rfl fr.2.2.1) (hK _ _ ⟨Touch.refl _ _, rfl⟩)⟩),
              -- 5
              (fun Q aq ww own hS hBg fr kn => .inl ⟨trivial, fun K hK => wp_value (exec_ixs rfl kn.1 kn.2.1 hjp) (hK _ _ ⟨Touch.refl _ _, rfl⟩)⟩),
              -- 6
              (fun Q aq ww own hS hBg fr kn => .inl ⟨trivial, fun K hK => wp_value (exec_xor8 rfl kn.1 kn.2.1 (xo_b j hbk (txt_b pc) j hj64) (txt_b pc j)) (hK _ _ ⟨Touch.refl _ _, rfl⟩)⟩),
              -- 7
              (fun Q aq ww own hS hBg fr kn => .inl ⟨trivial, fun K hK => wp_value (exec_idxA rfl Tryz.underlying97 len64 sizeB64 fr.2.1 kn.1 hj64) (hK _ _ ⟨Touch.refl _ _, rfl⟩)⟩),
              -- 8
              (fun Q aq ww own hS hBg fr kn => .inl ⟨trivial, fun K hK => act_cell8 rfl kn.1 kn.2.1 (obAt kn.2.2.1) hj64 (fun w2 hg ho => hK _ _ ⟨⟨touch_only ho, obIn (show _ = _ from by rw [← xo_step]; exact hg)⟩, trivial⟩)⟩),
              trivial⟩ ?_
          intro vs7 own7 v7 hb7 hs7 kn inj
          clear inj hs7
          have G6 : ArrAt v7 b13 .u8 97 64 (xo bk (txt pc) (j + 1)) := obAt kn.1
          clear kn
          simp only [putAll, Act.put, List.setIfInBounds_toArray, List.set_cons_zero, List.set_cons_succ]
          go_wp2_with fail
          go_roundg (n - (j + 1))
          case rel => exact ⟨j + 1, Hid.mk (by omega), by go_num, G6, hb7⟩
          case measure => have := HJ.out; omega
        · have hj2 : j = n := by omega
          subst hj2
          clear hjl hjn HJ
          have hsl := fun w => sl64H b13 j w hn64
          go_wp2_with fail
          have hD2 := hD.kept (hb13.symm ▸ hb6)
          have g3b := g3.kept (hb13.symm ▸ hb6)
          refine (write_run b10 b10 (min (64 * k) s.size) j 64 b13 0 (strm key nonce c s) (xo bk (txt pc) j) _ hD2 (fun q hq => by rw [Nat.zero_add]; exact g6.cell q (by omega)) (by have := HS.out; omega) (by have := hb6.size; omega)).mono ?_
          rintro e v8 ⟨rfl, hD8, hb8⟩
          have hks2 : min (64 * k) s.size = 64 * k := by omega
          have hnx : min (64 * k) s.size + j = min (64 * (k + 1)) s.size := by have := HN.out; have := HS.out; omega
          replace hD8 := hD8.congr (g := strm key nonce c s) (fun i hi => by
            rw [hks2]
            unfold cat
            split
            · rfl
            · rename_i h
              have e1 : i / 64 = k := by omega
              have e2 : i % 64 = i - 64 * k := by omega
              have e3 : txt pc (i - 64 * k) = txt s i := by
                have := HT.out (i - 64 * k) (by have := HS.out; omega)
                rw [this]
                congr 1
                omega
              unfold xo strm ksb
              rw [if_pos (by omega), e1, e2, e3, HK2.out, xorw_comm])
          rw [hnx] at hD8
          have g8 := g3b.below hb8 hz10
          have hB8 := (hB.trans (Below.mono (hb13.symm ▸ hb6) hB.size)).trans (hb8.mono (by omega))
          have hz8 : b10 ≤ v8.heap.size := by have := hb8.size; have := hb6.size; omega
          clear hsl hD hD2 g3 g3b g6 hb6 hb8 hB hmin
          go_wp2_with fail
          go_roundg (N - (k + 1))
          case rel => exact ⟨k + 1, Hid.mk (by omega), by go_num, g8, hD8, hB8, hz8⟩
          case measure => have := HK.out; omega
    · have hk2 : k = N := by omega
      subst hk2
      have hall : min (64 * k) s.size = s.size := by omega
      rw [hall] at hD
      go_wp2_with fail
      refine (string_run b10 b10 s.size (strm key nonce c s) _ hD (fun j _ => strm_b key nonce c s j) hz3).mono ?_
      rintro e v9 ⟨rfl, hb9⟩
      go_wp2_with fail
      go_ret
      exact ⟨rfl, hB.trans (hb9.mono (by omega))⟩
end Go.Proofs.YtbkbcfimpaolmaaGreat
