/-
  Own text. What the quarter round of the document's answer does: the words at four places of a row, behind a quarter round of them.
-/
import Derived.Test.YtfgebcemdjplnaaA5
namespace Go.Proofs.Ytfgebcemdjplnaa
open Go.RowKit Go.Proofs
theorem Touch.drew {T : Nat → Prop} {w w' : World} (h : Touch T w w') : Touch T w w'.drew := ⟨h.os, h.tape, h.output, h.size, h.block⟩
theorem touch_S {w v : World} {b : Nat} {G : List (Nat × Cont)} (hB : w.heap.size ≤ v.heap.size) (hG : ∀ k ∈ G.map (·.1), k = b := by intro k hk; simpa using hk) (u u' : World) (h : Touch (fun k => k = b) w u) (ht : Touch (fun k => v.heap.size ≤ k ∨ k ∈ G.map (·.1)) u u') : Touch (fun k => k = b) w u' :=
  ⟨ht.os.trans h.os, ht.tape.trans h.tape, ht.output.trans h.output, Nat.le_trans h.size ht.size, fun k hk hn => (ht.block k (Nat.lt_of_lt_of_le hk h.size) (fun e => e.elim (fun e => by omega) (fun e => hn (hG k e)))).trans (h.block k hk hn)⟩
theorem w32_upd {n : Nat} {s : Nat → Int} {x : Nat} {v : Int} (h : ∀ i, i < n → W32 (s i)) (hv : W32 v) : ∀ i, i < n → W32 (upd s x v i) := fun i hi => by
  unfold upd; split
  · exact hv
  · exact h i hi
theorem size_int (w : World) : (sizeOf (Try.prog.elem 23)).run Try.prog w = .ok 1 w := by kernel_rfl
theorem enterTurn (args : Array Value) (w : World) : (callFunc 18 args).run Try.prog w = .ok (.enter 18 args) w := by kernel_rfl
theorem cell0 {w : World} {b n : Nat} {s : Nat → Int} {x : Nat} (h : RowAt w b .i64 3 n s) (hx : x < n) : w.cell? ⟨b, 0 + x, none⟩ = some (.int .i64 (s x)) := by rw [Nat.zero_add]; exact h.cell x hx
theorem ptr0 {v : Value} {b x : Nat} (h : v = .pointer (some ⟨b, 0 + x, none⟩)) : v = .pointer (some ⟨b, x, none⟩) := by rw [Nat.zero_add] at h; exact h
theorem sum_lo {x y : Int} (hx : W32 x) (hy : W32 y) : -9223372036854775808 ≤ x + y := by unfold W32 at *; omega
theorem sum_nn {x y : Int} (hx : W32 x) (hy : W32 y) : 0 ≤ x + y := by unfold W32 at *; omega
theorem sum_hi {x y : Int} (hx : W32 x) (hy : W32 y) : x + y < 9223372036854775808 := by unfold W32 at *; omega
theorem qrow_chain (s : Nat → Int) (a b c d : Nat) (hab : a ≠ b) (hac : a ≠ c) (had : a ≠ d) (hbc : b ≠ c) (hbd : b ≠ d) (hcd : c ≠ d) {s1 s2 s3 s4 s5 s6 s7 s8 : Nat → Int}
    (h1 : upd s a (addw (s a) (s b)) = s1) (h2 : upd s1 d (rotw (xorw (s1 d) (s1 a)) 16) = s2) (h3 : upd s2 c (addw (s2 c) (s2 d)) = s3) (h4 : upd s3 b (rotw (xorw (s3 b) (s3 c)) 12) = s4)
    (h5 : upd s4 a (addw (s4 a) (s4 b)) = s5) (h6 : upd s5 d (rotw (xorw (s5 d) (s5 a)) 8) = s6) (h7 : upd s6 c (addw (s6 c) (s6 d)) = s7) (h8 : upd s7 b (rotw (xorw (s7 b) (s7 c)) 7) = s8) : s8 = qrow s a b c d := by
  have key : ∀ (f : Nat → Int) (x : Nat) (v : Int), upd f x v x = v := fun f x v => by simp [upd]
  have oth : ∀ (f : Nat → Int) (x y : Nat) (v : Int), y ≠ x → upd f x v y = f y := fun f x y v h => by simp [upd, h]
  have a1 : s1 a = addw (s a) (s b) := by rw [← h1, key]
  have b1 : s1 b = s b := by rw [← h1, oth _ _ _ _ hab.symm]
  have c1 : s1 c = s c := by rw [← h1, oth _ _ _ _ hac.symm]
  have d1 : s1 d = s d := by rw [← h1, oth _ _ _ _ had.symm]
  have a2 : s2 a = s1 a := by rw [← h2, oth _ _ _ _ had]
  have b2 : s2 b = s b := by rw [← h2, oth _ _ _ _ hbd, b1]
  have c2 : s2 c = s c := by rw [← h2, oth _ _ _ _ hcd, c1]
  have d2 : s2 d = rotw (xorw (s1 d) (s1 a)) 16 := by rw [← h2, key]
  have a3 : s3 a = s2 a := by rw [← h3, oth _ _ _ _ hac]
  have b3 : s3 b = s b := by rw [← h3, oth _ _ _ _ hbc, b2]
  have c3 : s3 c = addw (s2 c) (s2 d) := by rw [← h3, key]
  have d3 : s3 d = s2 d := by rw [← h3, oth _ _ _ _ hcd.symm]
  have a4 : s4 a = s3 a := by rw [← h4, oth _ _ _ _ hab]
  have b4 : s4 b = rotw (xorw (s3 b) (s3 c)) 12 := by rw [← h4, key]
  have c4 : s4 c = s3 c := by rw [← h4, oth _ _ _ _ hbc.symm]
  have d4 : s4 d = s3 d := by rw [← h4, oth _ _ _ _ hbd.symm]
  have a5 : s5 a = addw (s4 a) (s4 b) := by rw [← h5, key]
  have b5 : s5 b = s4 b := by rw [← h5, oth _ _ _ _ hab.symm]
  have c5 : s5 c = s4 c := by rw [← h5, oth _ _ _ _ hac.symm]
  have d5 : s5 d = s4 d := by rw [← h5, oth _ _ _ _ had.symm]
  have a6 : s6 a = s5 a := by rw [← h6, oth _ _ _ _ had]
  have b6 : s6 b = s5 b := by rw [← h6, oth _ _ _ _ hbd]
  have c6 : s6 c = s5 c := by rw [← h6, oth _ _ _ _ hcd]
  have d6 : s6 d = rotw (xorw (s5 d) (s5 a)) 8 := by rw [← h6, key]
  have a7 : s7 a = s6 a := by rw [← h7, oth _ _ _ _ hac]
  have b7 : s7 b = s6 b := by rw [← h7, oth _ _ _ _ hbc]
  have c7 : s7 c = addw (s6 c) (s6 d) := by rw [← h7, key]
  have d7 : s7 d = s6 d := by rw [← h7, oth _ _ _ _ hcd.symm]
  have a8 : s8 a = s7 a := by rw [← h8, oth _ _ _ _ hab]
  have b8 : s8 b = rotw (xorw (s7 b) (s7 c)) 7 := by rw [← h8, key]
  have c8 : s8 c = s7 c := by rw [← h8, oth _ _ _ _ hbc.symm]
  have d8 : s8 d = s7 d := by rw [← h8, oth _ _ _ _ hbd.symm]
  have hq : quart ⟨s a, s b, s c, s d⟩ = ⟨s8 a, s8 b, s8 c, s8 d⟩ := by
    simp only [quart, half]
    rw [a8, b8, c8, d8, a7, b7, c7, d7, a6, b6, c6, d6, a5, b5, c5, d5, a4, b4, c4, d4, a3, b3, c3, d3, a2, c2, d2, a1, d1]
  funext i
  unfold qrow
  rw [hq]
  by_cases ia : i = a
  · subst ia; rw [oth _ _ _ _ had, oth _ _ _ _ hac, oth _ _ _ _ hab, key]
  by_cases ib : i = b
  · subst ib; rw [oth _ _ _ _ hbd, oth _ _ _ _ hbc, key]
  by_cases ic : i = c
  · subst ic; rw [oth _ _ _ _ hcd, key]
  by_cases id : i = d
  · subst id; rw [key]
  rw [oth _ _ _ _ id, oth _ _ _ _ ic, oth _ _ _ _ ib, oth _ _ _ _ ia]
  rw [← h8, oth _ _ _ _ ib, ← h7, oth _ _ _ _ ic, ← h6, oth _ _ _ _ id, ← h5, oth _ _ _ _ ia, ← h4, oth _ _ _ _ ib, ← h3, oth _ _ _ _ ic, ← h2, oth _ _ _ _ id, ← h1, oth _ _ _ _ ia]
set_option maxHeartbeats 4000000 in
set_option maxRecDepth 100000 in
theorem rquarter_run (b n cp : Nat) (s0 : Nat → Int) (a y c d : Nat) (w : World) (hR : RowAt w b .i64 3 n s0) (Ws0 : ∀ i, i < n → W32 (s0 i)) (ha : a < n) (hy : y < n) (hc : c < n) (hd : d < n)
    (hab : a ≠ y) (hac : a ≠ c) (had : a ≠ d) (hbc : y ≠ c) (hbd : y ≠ d) (hcd : c ≠ d) :
    Calls Try.prog 8 #[.slice (some ⟨b, 0, none⟩) n cp, .int .i64 (a : Int), .int .i64 (y : Int), .int .i64 (c : Int), .int .i64 (d : Int)] w fun e w' =>
      e = .returned (.tuple #[]) ∧ RowAt w' b .i64 3 n (qrow s0 a y c d) ∧ Touch (fun k => k = b) w w' := by
  have hT := Touch.refl (fun k => k = b) w
  go_enter Try.func8, Try.ntmps8
  obtain ⟨s1, hs1⟩ : ∃ f, upd s0 a (addw (s0 a) (s0 y)) = f := ⟨_, rfl⟩
  have Ws1 : ∀ i, i < n → W32 (s1 i) := by rw [← hs1]; exact w32_upd Ws0 (addw_w _ _)
  go_wp2_with fail
  refine wp_region3 (Touch (fun k => k = b) w) w.heap.size
    [(b, ⟨rowOb .i64 3 n s0, [(13, rowOb .i64 3 n s1)]⟩)]
    [kv (.slice (some ⟨b, 0, none⟩) n cp), kv (.int .i64 (a : Int)), kv (.slice (some ⟨b, 0, none⟩) n cp), kv (.int .i64 (a : Int)), kv (.pointer (some ⟨b, 0 + a, none⟩)), kv (.int .i64 (s0 a)), kv (.slice (some ⟨b, 0, none⟩) n cp), kv (.int .i64 (y : Int)), kv (.pointer (some ⟨b, 0 + y, none⟩)), kv (.int .i64 (s0 y)), kv (.int .i64 (s0 a + s0 y)), kv (.int .i64 (addw (s0 a) (s0 y))), kv (.pointer (some ⟨b, 0 + a, none⟩)), .val fun _ => True]
    [.none, .none, .none, .none, .none, .none, .none, .none, .none, .none, .none, .none, .none, .base 0 1]
    [some 10, some 11, some 12, some 13, some 14, some 15, some 16, some 17, some 18, some 19, some 20, some 21, some 22, none]
    [(0, .slice (some ⟨b, 0, none⟩) n cp), (1, .int .i64 (a : Int)), (2, .int .i64 (y : Int))]
    [[], [], [], [], [.slot 2, .slot 3], [.slot 4, .base 0 0], [], [], [.slot 6, .slot 7], [.slot 8, .base 0 0], [.slot 5, .slot 9], [.slot 10], [.slot 0, .slot 1], [.slot 12, .base 0 0, .slot 11]]
    [.base 0 1] [10, 11, 12, 13, 14, 15, 16, 17, 18, 19, 20, 21, 22]
    rfl (by kernel_rfl) ⟨rfl, rfl, rfl, trivial⟩ (Touch.drew hT) (Nat.le_refl _) ⟨⟨RowAt.lt hR, hR⟩, trivial⟩ ⟨trivial, trivial⟩ (touch_S hT.size)
    ⟨
      -- 0
      (fun Q aq ww own hS hBg fr kn => .inl ⟨trivial, fun K hK => wp_value (exec_move rfl fr.1) (hK _ _ ⟨Touch.refl _ _, rfl⟩)⟩),
      -- 1
      (fun Q aq ww own hS hBg fr kn => .inl ⟨trivial, fun K hK => wp_value (exec_move rfl fr.2.1) (hK _ _ ⟨Touch.refl _ _, rfl⟩)⟩),
      -- 2
      (fun Q aq ww own hS hBg fr kn => .inl ⟨trivial, fun K hK => wp_value (exec_move rfl fr.1) (hK _ _ ⟨Touch.refl _ _, rfl⟩)⟩),
      -- 3
      (fun Q aq ww own hS hBg fr kn => .inl ⟨trivial, fun K hK => wp_value (exec_move rfl fr.2.1) (hK _ _ ⟨Touch.refl _ _, rfl⟩)⟩),
      -- 4
      (fun Q aq ww own hS hBg fr kn => .inl ⟨trivial, fun K hK => wp_value (exec_idx rfl Try.underlying23 size_int kn.1 kn.2.1 ha) (hK _ _ ⟨Touch.refl _ _, rfl⟩)⟩),
      -- 5
      (fun Q aq ww own hS hBg fr kn => .inl ⟨trivial, fun K hK => wp_value (exec_ld rfl kn.1 (load_int (cell0 kn.2.1 ha))) (hK _ _ ⟨Touch.refl _ _, rfl⟩)⟩),
      -- 6
      (fun Q aq ww own hS hBg fr kn => .inl ⟨trivial, fun K hK => wp_value (exec_move rfl fr.1) (hK _ _ ⟨Touch.refl _ _, rfl⟩)⟩),
      -- 7
      (fun Q aq ww own hS hBg fr kn => .inl ⟨trivial, fun K hK => wp_value (exec_move rfl fr.2.2.1) (hK _ _ ⟨Touch.refl _ _, rfl⟩)⟩),
      -- 8
      (fun Q aq ww own hS hBg fr kn => .inl ⟨trivial, fun K hK => wp_value (exec_idx rfl Try.underlying23 size_int kn.1 kn.2.1 hy) (hK _ _ ⟨Touch.refl _ _, rfl⟩)⟩),
      -- 9
      (fun Q aq ww own hS hBg fr kn => .inl ⟨trivial, fun K hK => wp_value (exec_ld rfl kn.1 (load_int (cell0 kn.2.1 hy))) (hK _ _ ⟨Touch.refl _ _, rfl⟩)⟩),
      -- 10
      (fun Q aq ww own hS hBg fr kn => .inl ⟨trivial, fun K hK => wp_value (exec_add rfl kn.1 kn.2.1 (sum_lo (Ws0 a ha) (Ws0 y hy)) (sum_hi (Ws0 a ha) (Ws0 y hy))) (hK _ _ ⟨Touch.refl _ _, rfl⟩)⟩),
      -- 11
      (fun Q aq ww own hS hBg fr kn => .inl ⟨trivial, fun K hK => wp_value (exec_rem rfl kn.1 (sum_nn (Ws0 a ha) (Ws0 y hy)) (sum_hi (Ws0 a ha) (Ws0 y hy))) (hK _ _ ⟨Touch.refl _ _, rfl⟩)⟩),
      -- 12
      (fun Q aq ww own hS hBg fr kn => .inl ⟨trivial, fun K hK => wp_value (exec_idx rfl Try.underlying23 size_int kn.1 kn.2.1 ha) (hK _ _ ⟨Touch.refl _ _, rfl⟩)⟩),
      -- 13
      (fun Q aq ww own hS hBg fr kn => .inl ⟨trivial, fun K hK => act_cell rfl (ptr0 kn.1) kn.2.2.1 kn.2.1 ha (fun w2 hg ho => hK _ _ ⟨⟨touch_only ho, hs1 ▸ hg⟩, trivial⟩)⟩),
      trivial⟩ ?_
  intro vs0 own v1 hT0 hs0 kn inj
  clear inj
  replace hR : RowAt v1 b .i64 3 n s1 := kn.1
  clear kn hs0
  replace hT := hT0
  clear hT0 own
  simp only [putAll, Act.put, List.setIfInBounds_toArray, List.set_cons_zero, List.set_cons_succ]
  obtain ⟨s2, hs2⟩ : ∃ f, upd s1 d (rotw (xorw (s1 d) (s1 a)) 16) = f := ⟨_, rfl⟩
  have Ws2 : ∀ i, i < n → W32 (s2 i) := by rw [← hs2]; exact w32_upd Ws1 (rotw_w 16 (xorw_w (Ws1 d hd) (Ws1 a ha)))
  go_wp2_with fail
  refine wp_region3 (Touch (fun k => k = b) w) v1.heap.size
    [(b, ⟨rowOb .i64 3 n s1, [(13, rowOb .i64 3 n s2)]⟩)]
    [kv (.slice (some ⟨b, 0, none⟩) n cp), kv (.int .i64 (d : Int)), kv (.slice (some ⟨b, 0, none⟩) n cp), kv (.int .i64 (d : Int)), kv (.pointer (some ⟨b, 0 + d, none⟩)), kv (.int .i64 (s1 d)), kv (.slice (some ⟨b, 0, none⟩) n cp), kv (.int .i64 (a : Int)), kv (.pointer (some ⟨b, 0 + a, none⟩)), kv (.int .i64 (s1 a)), kv (.int .i64 (xorw (s1 d) (s1 a))), kv (.int .i64 (rotw (xorw (s1 d) (s1 a)) 16)), kv (.pointer (some ⟨b, 0 + d, none⟩)), .val fun _ => True]
    [.none, .none, .none, .none, .none, .none, .none, .none, .none, .none, .none, .none, .none, .base 0 1]
    [some 23, some 24, some 25, some 26, some 27, some 28, some 29, some 30, some 31, some 32, some 33, some 34, some 35, none]
    [(0, .slice (some ⟨b, 0, none⟩) n cp), (4, .int .i64 (d : Int)), (1, .int .i64 (a : Int))]
    [[], [], [], [], [.slot 2, .slot 3], [.slot 4, .base 0 0], [], [], [.slot 6, .slot 7], [.slot 8, .base 0 0], [.slot 5, .slot 9], [.slot 10], [.slot 0, .slot 1], [.slot 12, .base 0 0, .slot 11]]
    [.base 0 1] [23, 24, 25, 26, 27, 28, 29, 30, 31, 32, 33, 34, 35]
    rfl (by kernel_rfl) ⟨rfl, rfl, rfl, trivial⟩ (Touch.drew hT) (Nat.le_refl _) ⟨⟨RowAt.lt hR, hR⟩, trivial⟩ ⟨trivial, trivial⟩ (touch_S hT.size)
    ⟨
      -- 0
      (fun Q aq ww own hS hBg fr kn => .inl ⟨trivial, fun K hK => wp_value (exec_move rfl fr.1) (hK _ _ ⟨Touch.refl _ _, rfl⟩)⟩),
      -- 1
      (fun Q aq ww own hS hBg fr kn => .inl ⟨trivial, fun K hK => wp_value (exec_move rfl fr.2.1) (hK _ _ ⟨Touch.refl _ _, rfl⟩)⟩),
      -- 2
      (fun Q aq ww own hS hBg fr kn => .inl ⟨trivial, fun K hK => wp_value (exec_move rfl fr.1) (hK _ _ ⟨Touch.refl _ _, rfl⟩)⟩),
      -- 3
      (fun Q aq ww own hS hBg fr kn => .inl ⟨trivial, fun K hK => wp_value (exec_move rfl fr.2.1) (hK _ _ ⟨Touch.refl _ _, rfl⟩)⟩),
      -- 4
      (fun Q aq ww own hS hBg fr kn => .inl ⟨trivial, fun K hK => wp_value (exec_idx rfl Try.underlying23 size_int kn.1 kn.2.1 hd) (hK _ _ ⟨Touch.refl _ _, rfl⟩)⟩),
      -- 5
      (fun Q aq ww own hS hBg fr kn => .inl ⟨trivial, fun K hK => wp_value (exec_ld rfl kn.1 (load_int (cell0 kn.2.1 hd))) (hK _ _ ⟨Touch.refl _ _, rfl⟩)⟩),
      -- 6
      (fun Q aq ww own hS hBg fr kn => .inl ⟨trivial, fun K hK => wp_value (exec_move rfl fr.1) (hK _ _ ⟨Touch.refl _ _, rfl⟩)⟩),
      -- 7
      (fun Q aq ww own hS hBg fr kn => .inl ⟨trivial, fun K hK => wp_value (exec_move rfl fr.2.2.1) (hK _ _ ⟨Touch.refl _ _, rfl⟩)⟩),
      -- 8
      (fun Q aq ww own hS hBg fr kn => .inl ⟨trivial, fun K hK => wp_value (exec_idx rfl Try.underlying23 size_int kn.1 kn.2.1 ha) (hK _ _ ⟨Touch.refl _ _, rfl⟩)⟩),
      -- 9
      (fun Q aq ww own hS hBg fr kn => .inl ⟨trivial, fun K hK => wp_value (exec_ld rfl kn.1 (load_int (cell0 kn.2.1 ha))) (hK _ _ ⟨Touch.refl _ _, rfl⟩)⟩),
      -- 10
      (fun Q aq ww own hS hBg fr kn => .inl ⟨trivial, fun K hK => wp_value (exec_xor rfl kn.1 kn.2.1 (Ws1 d hd) (Ws1 a ha)) (hK _ _ ⟨Touch.refl _ _, rfl⟩)⟩),
      -- 11
      (fun Q aq ww own hS hBg fr kn => .inl ⟨trivial, fun K hK => stepc enterTurn rfl (args2 kn.1 rfl) (turn_run _ 16 _ (xorw_w (Ws1 d hd) (Ws1 a ha)) (by decide)) (fun w' hb => hK _ _ ⟨touch_below hb, rfl⟩)⟩),
      -- 12
      (fun Q aq ww own hS hBg fr kn => .inl ⟨trivial, fun K hK => wp_value (exec_idx rfl Try.underlying23 size_int kn.1 kn.2.1 hd) (hK _ _ ⟨Touch.refl _ _, rfl⟩)⟩),
      -- 13
      (fun Q aq ww own hS hBg fr kn => .inl ⟨trivial, fun K hK => act_cell rfl (ptr0 kn.1) kn.2.2.1 kn.2.1 hd (fun w2 hg ho => hK _ _ ⟨⟨touch_only ho, hs2 ▸ hg⟩, trivial⟩)⟩),
      trivial⟩ ?_
  intro vs1 own v2 hT1 hs1 kn inj
  clear inj
  replace hR : RowAt v2 b .i64 3 n s2 := kn.1
  clear kn hs1
  replace hT := hT1
  clear hT1 own
  simp only [putAll, Act.put, List.setIfInBounds_toArray, List.set_cons_zero, List.set_cons_succ]
  obtain ⟨s3, hs3⟩ : ∃ f, upd s2 c (addw (s2 c) (s2 d)) = f := ⟨_, rfl⟩
  have Ws3 : ∀ i, i < n → W32 (s3 i) := by rw [← hs3]; exact w32_upd Ws2 (addw_w _ _)
  go_wp2_with fail
  refine wp_region3 (Touch (fun k => k = b) w) v2.heap.size
    [(b, ⟨rowOb .i64 3 n s2, [(13, rowOb .i64 3 n s3)]⟩)]
    [kv (.slice (some ⟨b, 0, none⟩) n cp), kv (.int .i64 (c : Int)), kv (.slice (some ⟨b, 0, none⟩) n cp), kv (.int .i64 (c : Int)), kv (.pointer (some ⟨b, 0 + c, none⟩)), kv (.int .i64 (s2 c)), kv (.slice (some ⟨b, 0, none⟩) n cp), kv (.int .i64 (d : Int)), kv (.pointer (some ⟨b, 0 + d, none⟩)), kv (.int .i64 (s2 d)), kv (.int .i64 (s2 c + s2 d)), kv (.int .i64 (addw (s2 c) (s2 d))), kv (.pointer (some ⟨b, 0 + c, none⟩)), .val fun _ => True]
    [.none, .none, .none, .none, .none, .none, .none, .none, .none, .none, .none, .none, .none, .base 0 1]
    [some 36, some 37, some 38, some 39, some 40, some 41, some 42, some 43, some 44, some 45, some 46, some 47, some 48, none]
    [(0, .slice (some ⟨b, 0, none⟩) n cp), (3, .int .i64 (c : Int)), (4, .int .i64 (d : Int))]
    [[], [], [], [], [.slot 2, .slot 3], [.slot 4, .base 0 0], [], [], [.slot 6, .slot 7], [.slot 8, .base 0 0], [.slot 5, .slot 9], [.slot 10], [.slot 0, .slot 1], [.slot 12, .base 0 0, .slot 11]]
    [.base 0 1] [36, 37, 38, 39, 40, 41, 42, 43, 44, 45, 46, 47, 48]
    rfl (by kernel_rfl) ⟨rfl, rfl, rfl, trivial⟩ (Touch.drew hT) (Nat.le_refl _) ⟨⟨RowAt.lt hR, hR⟩, trivial⟩ ⟨trivial, trivial⟩ (touch_S hT.size)
    ⟨
      -- 0
      (fun Q aq ww own hS hBg fr kn => .inl ⟨trivial, fun K hK => wp_value (exec_move rfl fr.1) (hK _ _ ⟨Touch.refl _ _, rfl⟩)⟩),
      -- 1
      (fun Q aq ww own hS hBg fr kn => .inl ⟨trivial, fun K hK => wp_value (exec_move rfl fr.2.1) (hK _ _ ⟨Touch.refl _ _, rfl⟩)⟩),
      -- 2
      (fun Q aq ww own hS hBg fr kn => .inl ⟨trivial, fun K hK => wp_value (exec_move rfl fr.1) (hK _ _ ⟨Touch.refl _ _, rfl⟩)⟩),
      -- 3
      (fun Q aq ww own hS hBg fr kn => .inl ⟨trivial, fun K hK => wp_value (exec_move rfl fr.2.1) (hK _ _ ⟨Touch.refl _ _, rfl⟩)⟩),
      -- 4
      (fun Q aq ww own hS hBg fr kn => .inl ⟨trivial, fun K hK => wp_value (exec_idx rfl Try.underlying23 size_int kn.1 kn.2.1 hc) (hK _ _ ⟨Touch.refl _ _, rfl⟩)⟩),
      -- 5
      (fun Q aq ww own hS hBg fr kn => .inl ⟨trivial, fun K hK => wp_value (exec_ld rfl kn.1 (load_int (cell0 kn.2.1 hc))) (hK _ _ ⟨Touch.refl _ _, rfl⟩)⟩),
      -- 6
      (fun Q aq ww own hS hBg fr kn => .inl ⟨trivial, fun K hK => wp_value (exec_move rfl fr.1) (hK _ _ ⟨Touch.refl _ _, rfl⟩)⟩),
      -- 7
      (fun Q aq ww own hS hBg fr kn => .inl ⟨trivial, fun K hK => wp_value (exec_move rfl fr.2.2.1) (hK _ _ ⟨Touch.refl _ _, rfl⟩)⟩),
      -- 8
      (fun Q aq ww own hS hBg fr kn => .inl ⟨trivial, fun K hK => wp_value (exec_idx rfl Try.underlying23 size_int kn.1 kn.2.1 hd) (hK _ _ ⟨Touch.refl _ _, rfl⟩)⟩),
      -- 9
      (fun Q aq ww own hS hBg fr kn => .inl ⟨trivial, fun K hK => wp_value (exec_ld rfl kn.1 (load_int (cell0 kn.2.1 hd))) (hK _ _ ⟨Touch.refl _ _, rfl⟩)⟩),
      -- 10
      (fun Q aq ww own hS hBg fr kn => .inl ⟨trivial, fun K hK => wp_value (exec_add rfl kn.1 kn.2.1 (sum_lo (Ws2 c hc) (Ws2 d hd)) (sum_hi (Ws2 c hc) (Ws2 d hd))) (hK _ _ ⟨Touch.refl _ _, rfl⟩)⟩),
      -- 11
      (fun Q aq ww own hS hBg fr kn => .inl ⟨trivial, fun K hK => wp_value (exec_rem rfl kn.1 (sum_nn (Ws2 c hc) (Ws2 d hd)) (sum_hi (Ws2 c hc) (Ws2 d hd))) (hK _ _ ⟨Touch.refl _ _, rfl⟩)⟩),
      -- 12
      (fun Q aq ww own hS hBg fr kn => .inl ⟨trivial, fun K hK => wp_value (exec_idx rfl Try.underlying23 size_int kn.1 kn.2.1 hc) (hK _ _ ⟨Touch.refl _ _, rfl⟩)⟩),
      -- 13
      (fun Q aq ww own hS hBg fr kn => .inl ⟨trivial, fun K hK => act_cell rfl (ptr0 kn.1) kn.2.2.1 kn.2.1 hc (fun w2 hg ho => hK _ _ ⟨⟨touch_only ho, hs3 ▸ hg⟩, trivial⟩)⟩),
      trivial⟩ ?_
  intro vs2 own v3 hT2 hs2 kn inj
  clear inj
  replace hR : RowAt v3 b .i64 3 n s3 := kn.1
  clear kn hs2
  replace hT := hT2
  clear hT2 own
  simp only [putAll, Act.put, List.setIfInBounds_toArray, List.set_cons_zero, List.set_cons_succ]
  obtain ⟨s4, hs4⟩ : ∃ f, upd s3 y (rotw (xorw (s3 y) (s3 c)) 12) = f := ⟨_, rfl⟩
  have Ws4 : ∀ i, i < n → W32 (s4 i) := by rw [← hs4]; exact w32_upd Ws3 (rotw_w 12 (xorw_w (Ws3 y hy) (Ws3 c hc)))
  go_wp2_with fail
  refine wp_region3 (Touch (fun k => k = b) w) v3.heap.size
    [(b, ⟨rowOb .i64 3 n s3, [(13, rowOb .i64 3 n s4)]⟩)]
    [kv (.slice (some ⟨b, 0, none⟩) n cp), kv (.int .i64 (y : Int)), kv (.slice (some ⟨b, 0, none⟩) n cp), kv (.int .i64 (y : Int)), kv (.pointer (some ⟨b, 0 + y, none⟩)), kv (.int .i64 (s3 y)), kv (.slice (some ⟨b, 0, none⟩) n cp), kv (.int .i64 (c : Int)), kv (.pointer (some ⟨b, 0 + c, none⟩)), kv (.int .i64 (s3 c)), kv (.int .i64 (xorw (s3 y) (s3 c))), kv (.int .i64 (rotw (xorw (s3 y) (s3 c)) 12)), kv (.pointer (some ⟨b, 0 + y, none⟩)), .val fun _ => True]
    [.none, .none, .none, .none, .none, .none, .none, .none, .none, .none, .none, .none, .none, .base 0 1]
    [some 49, some 50, some 51, some 52, some 53, some 54, some 55, some 56, some 57, some 58, some 59, some 60, some 61, none]
    [(0, .slice (some ⟨b, 0, none⟩) n cp), (2, .int .i64 (y : Int)), (3, .int .i64 (c : Int))]
    [[], [], [], [], [.slot 2, .slot 3], [.slot 4, .base 0 0], [], [], [.slot 6, .slot 7], [.slot 8, .base 0 0], [.slot 5, .slot 9], [.slot 10], [.slot 0, .slot 1], [.slot 12, .base 0 0, .slot 11]]
    [.base 0 1] [49, 50, 51, 52, 53, 54, 55, 56, 57, 58, 59, 60, 61]
    rfl (by kernel_rfl) ⟨rfl, rfl, rfl, trivial⟩ (Touch.drew hT) (Nat.le_refl _) ⟨⟨RowAt.lt hR, hR⟩, trivial⟩ ⟨trivial, trivial⟩ (touch_S hT.size)
    ⟨
      -- 0
      (fun Q aq ww own hS hBg fr kn => .inl ⟨trivial, fun K hK => wp_value (exec_move rfl fr.1) (hK _ _ ⟨Touch.refl _ _, rfl⟩)⟩),
      -- 1
      (fun Q aq ww own hS hBg fr kn => .inl ⟨trivial, fun K hK => wp_value (exec_move rfl fr.2.1) (hK _ _ ⟨Touch.refl _ _, rfl⟩)⟩),
      -- 2
      (fun Q aq ww own hS hBg fr kn => .inl ⟨trivial, fun K hK => wp_value (exec_move rfl fr.1) (hK _ _ ⟨Touch.refl _ _, rfl⟩)⟩),
      -- 3
      (fun Q aq ww own hS hBg fr kn => .inl ⟨trivial, fun K hK => wp_value (exec_move rfl fr.2.1) (hK _ _ ⟨Touch.refl _ _, rfl⟩)⟩),
      -- 4
      (fun Q aq ww own hS hBg fr kn => .inl ⟨trivial, fun K hK => wp_value (exec_idx rfl Try.underlying23 size_int kn.1 kn.2.1 hy) (hK _ _ ⟨Touch.refl _ _, rfl⟩)⟩),
      -- 5
      (fun Q aq ww own hS hBg fr kn => .inl ⟨trivial, fun K hK => wp_value (exec_ld rfl kn.1 (load_int (cell0 kn.2.1 hy))) (hK _ _ ⟨Touch.refl _ _, rfl⟩)⟩),
      -- 6
      (fun Q aq ww own hS hBg fr kn => .inl ⟨trivial, fun K hK => wp_value (exec_move rfl fr.1) (hK _ _ ⟨Touch.refl _ _, rfl⟩)⟩),
      -- 7
      (fun Q aq ww own hS hBg fr kn => .inl ⟨trivial, fun K hK => wp_value (exec_move rfl fr.2.2.1) (hK _ _ ⟨Touch.refl _ _, rfl⟩)⟩),
      -- 8
      (fun Q aq ww own hS hBg fr kn => .inl ⟨trivial, fun K hK => wp_value (exec_idx rfl Try.underlying23 size_int kn.1 kn.2.1 hc) (hK _ _ ⟨Touch.refl _ _, rfl⟩)⟩),
      -- 9
      (fun Q aq ww own hS hBg fr kn => .inl ⟨trivial, fun K hK => wp_value (exec_ld rfl kn.1 (load_int (cell0 kn.2.1 hc))) (hK _ _ ⟨Touch.refl _ _, rfl⟩)⟩),
      -- 10
      (fun Q aq ww own hS hBg fr kn => .inl ⟨trivial, fun K hK => wp_value (exec_xor rfl kn.1 kn.2.1 (Ws3 y hy) (Ws3 c hc)) (hK _ _ ⟨Touch.refl _ _, rfl⟩)⟩),
      -- 11
      (fun Q aq ww own hS hBg fr kn => .inl ⟨trivial, fun K hK => stepc enterTurn rfl (args2 kn.1 rfl) (turn_run _ 12 _ (xorw_w (Ws3 y hy) (Ws3 c hc)) (by decide)) (fun w' hb => hK _ _ ⟨touch_below hb, rfl⟩)⟩),
      -- 12
      (fun Q aq ww own hS hBg fr kn => .inl ⟨trivial, fun K hK => wp_value (exec_idx rfl Try.underlying23 size_int kn.1 kn.2.1 hy) (hK _ _ ⟨Touch.refl _ _, rfl⟩)⟩),
      -- 13
      (fun Q aq ww own hS hBg fr kn => .inl ⟨trivial, fun K hK => act_cell rfl (ptr0 kn.1) kn.2.2.1 kn.2.1 hy (fun w2 hg ho => hK _ _ ⟨⟨touch_only ho, hs4 ▸ hg⟩, trivial⟩)⟩),
      trivial⟩ ?_
  intro vs3 own v4 hT3 hs3 kn inj
  clear inj
  replace hR : RowAt v4 b .i64 3 n s4 := kn.1
  clear kn hs3
  replace hT := hT3
  clear hT3 own
  simp only [putAll, Act.put, List.setIfInBounds_toArray, List.set_cons_zero, List.set_cons_succ]
  obtain ⟨s5, hs5⟩ : ∃ f, upd s4 a (addw (s4 a) (s4 y)) = f := ⟨_, rfl⟩
  have Ws5 : ∀ i, i < n → W32 (s5 i) := by rw [← hs5]; exact w32_upd Ws4 (addw_w _ _)
  go_wp2_with fail
  refine wp_region3 (Touch (fun k => k = b) w) v4.heap.size
    [(b, ⟨rowOb .i64 3 n s4, [(13, rowOb .i64 3 n s5)]⟩)]
    [kv (.slice (some ⟨b, 0, none⟩) n cp), kv (.int .i64 (a : Int)), kv (.slice (some ⟨b, 0, none⟩) n cp), kv (.int .i64 (a : Int)), kv (.pointer (some ⟨b, 0 + a, none⟩)), kv (.int .i64 (s4 a)), kv (.slice (some ⟨b, 0, none⟩) n cp), kv (.int .i64 (y : Int)), kv (.pointer (some ⟨b, 0 + y, none⟩)), kv (.int .i64 (s4 y)), kv (.int .i64 (s4 a + s4 y)), kv (.int .i64 (addw (s4 a) (s4 y))), kv (.pointer (some ⟨b, 0 + a, none⟩)), .val fun _ => True]
    [.none, .none, .none, .none, .none, .none, .none, .none, .none, .none, .none, .none, .none, .base 0 1]
    [some 62, some 63, some 64, some 65, some 66, some 67, some 68, some 69, some 70, some 71, some 72, some 73, some 74, none]
    [(0, .slice (some ⟨b, 0, none⟩) n cp), (1, .int .i64 (a : Int)), (2, .int .i64 (y : Int))]
    [[], [], [], [], [.slot 2, .slot 3], [.slot 4, .base 0 0], [], [], [.slot 6, .slot 7], [.slot 8, .base 0 0], [.slot 5, .slot 9], [.slot 10], [.slot 0, .slot 1], [.slot 12, .base 0 0, .slot 11]]
    [.base 0 1] [62, 63, 64, 65, 66, 67, 68, 69, 70, 71, 72, 73, 74]
    rfl (by kernel_rfl) ⟨rfl, rfl, rfl, trivial⟩ (Touch.drew hT) (Nat.le_refl _) ⟨⟨RowAt.lt hR, hR⟩, trivial⟩ ⟨trivial, trivial⟩ (touch_S hT.size)
    ⟨
      -- 0
      (fun Q aq ww own hS hBg fr kn => .inl ⟨trivial, fun K hK => wp_value (exec_move rfl fr.1) (hK _ _ ⟨Touch.refl _ _, rfl⟩)⟩),
      -- 1
      (fun Q aq ww own hS hBg fr kn => .inl ⟨trivial, fun K hK => wp_value (exec_move rfl fr.2.1) (hK _ _ ⟨Touch.refl _ _, rfl⟩)⟩),
      -- 2
      (fun Q aq ww own hS hBg fr kn => .inl ⟨trivial, fun K hK => wp_value (exec_move rfl fr.1) (hK _ _ ⟨Touch.refl _ _, rfl⟩)⟩),
      -- 3
      (fun Q aq ww own hS hBg fr kn => .inl ⟨trivial, fun K hK => wp_value (exec_move rfl fr.2.1) (hK _ _ ⟨Touch.refl _ _, rfl⟩)⟩),
      -- 4
      (fun Q aq ww own hS hBg fr kn => .inl ⟨trivial, fun K hK => wp_value (exec_idx rfl Try.underlying23 size_int kn.1 kn.2.1 ha) (hK _ _ ⟨Touch.refl _ _, rfl⟩)⟩),
      -- 5
      (fun Q aq ww own hS hBg fr kn => .inl ⟨trivial, fun K hK => wp_value (exec_ld rfl kn.1 (load_int (cell0 kn.2.1 ha))) (hK _ _ ⟨Touch.refl _ _, rfl⟩)⟩),
      -- 6
      (fun Q aq ww own hS hBg fr kn => .inl ⟨trivial, fun K hK => wp_value (exec_move rfl fr.1) (hK _ _ ⟨Touch.refl _ _, rfl⟩)⟩),
      -- 7
      (fun Q aq ww own hS hBg fr kn => .inl ⟨trivial, fun K hK => wp_value (exec_move rfl fr.2.2.1) (hK _ _ ⟨Touch.refl _ _, rfl⟩)⟩),
      -- 8
      (fun Q aq ww own hS hBg fr kn => .inl ⟨trivial, fun K hK => wp_value (exec_idx rfl Try.underlying23 size_int kn.1 kn.2.1 hy) (hK _ _ ⟨Touch.refl _ _, rfl⟩)⟩),
      -- 9
      (fun Q aq ww own hS hBg fr kn => .inl ⟨trivial, fun K hK => wp_value (exec_ld rfl kn.1 (load_int (cell0 kn.2.1 hy))) (hK _ _ ⟨Touch.refl _ _, rfl⟩)⟩),
      -- 10
      (fun Q aq ww own hS hBg fr kn => .inl ⟨trivial, fun K hK => wp_value (exec_add rfl kn.1 kn.2.1 (sum_lo (Ws4 a ha) (Ws4 y hy)) (sum_hi (Ws4 a ha) (Ws4 y hy))) (hK _ _ ⟨Touch.refl _ _, rfl⟩)⟩),
      -- 11
      (fun Q aq ww own hS hBg fr kn => .inl ⟨trivial, fun K hK => wp_value (exec_rem rfl kn.1 (sum_nn (Ws4 a ha) (Ws4 y hy)) (sum_hi (Ws4 a ha) (Ws4 y hy))) (hK _ _ ⟨Touch.refl _ _, rfl⟩)⟩),
      -- 12
      (fun Q aq ww own hS hBg fr kn => .inl ⟨trivial, fun K hK => wp_value (exec_idx rfl Try.underlying23 size_int kn.1 kn.2.1 ha) (hK _ _ ⟨Touch.refl _ _, rfl⟩)⟩),
      -- 13
      (fun Q aq ww own hS hBg fr kn => .inl ⟨trivial, fun K hK => act_cell rfl (ptr0 kn.1) kn.2.2.1 kn.2.1 ha (fun w2 hg ho => hK _ _ ⟨⟨touch_only ho, hs5 ▸ hg⟩, trivial⟩)⟩),
      trivial⟩ ?_
  intro vs4 own v5 hT4 hs4 kn inj
  clear inj
  replace hR : RowAt v5 b .i64 3 n s5 := kn.1
  clear kn hs4
  replace hT := hT4
  clear hT4 own
  simp only [putAll, Act.put, List.setIfInBounds_toArray, List.set_cons_zero, List.set_cons_succ]
  obtain ⟨s6, hs6⟩ : ∃ f, upd s5 d (rotw (xorw (s5 d) (s5 a)) 8) = f := ⟨_, rfl⟩
  have Ws6 : ∀ i, i < n → W32 (s6 i) := by rw [← hs6]; exact w32_upd Ws5 (rotw_w 8 (xorw_w (Ws5 d hd) (Ws5 a ha)))
  go_wp2_with fail
  refine wp_region3 (Touch (fun k => k = b) w) v5.heap.size
    [(b, ⟨rowOb .i64 3 n s5, [(13, rowOb .i64 3 n s6)]⟩)]
    [kv (.slice (some ⟨b, 0, none⟩) n cp), kv (.int .i64 (d : Int)), kv (.slice (some ⟨b, 0, none⟩) n cp), kv (.int .i64 (d : Int)), kv (.pointer (some ⟨b, 0 + d, none⟩)), kv (.int .i64 (s5 d)), kv (.slice (some ⟨b, 0, none⟩) n cp), kv (.int .i64 (a : Int)), kv (.pointer (some ⟨b, 0 + a, none⟩)), kv (.int .i64 (s5 a)), kv (.int .i64 (xorw (s5 d) (s5 a))), kv (.int .i64 (rotw (xorw (s5 d) (s5 a)) 8)), kv (.pointer (some ⟨b, 0 + d, none⟩)), .val fun _ => True]
    [.none, .none, .none, .none, .none, .none, .none, .none, .none, .none, .none, .none, .none, .base 0 1]
    [some 75, some 76, some 77, some 78, some 79, some 80, some 81, some 82, some 83, some 84, some 85, some 86, some 87, none]
    [(0, .slice (some ⟨b, 0, none⟩) n cp), (4, .int .i64 (d : Int)), (1, .int .i64 (a : Int))]
    [[], [], [], [], [.slot 2, .slot 3], [.slot 4, .base 0 0], [], [], [.slot 6, .slot 7], [.slot 8, .base 0 0], [.slot 5, .slot 9], [.slot 10], [.slot 0, .slot 1], [.slot 12, .base 0 0, .slot 11]]
    [.base 0 1] [75, 76, 77, 78, 79, 80, 81, 82, 83, 84, 85, 86, 87]
    rfl (by kernel_rfl) ⟨rfl, rfl, rfl, trivial⟩ (Touch.drew hT) (Nat.le_refl _) ⟨⟨RowAt.lt hR, hR⟩, trivial⟩ ⟨trivial, trivial⟩ (touch_S hT.size)
    ⟨
      -- 0
      (fun Q aq ww own hS hBg fr kn => .inl ⟨trivial, fun K hK => wp_value (exec_move rfl fr.1) (hK _ _ ⟨Touch.refl _ _, rfl⟩)⟩),
      -- 1
      (fun Q aq ww own hS hBg fr kn => .inl ⟨trivial, fun K hK => wp_value (exec_move rfl fr.2.1) (hK _ _ ⟨Touch.refl _ _, rfl⟩)⟩),
      -- 2
      (fun Q aq ww own hS hBg fr kn => .inl ⟨trivial, fun K hK => wp_value (exec_move rfl fr.1) (hK _ _ ⟨Touch.refl _ _, rfl⟩)⟩),
      -- 3
      (fun Q aq ww own hS hBg fr kn => .inl ⟨trivial, fun K hK => wp_value (exec_move rfl fr.2.1) (hK _ _ ⟨Touch.refl _ _, rfl⟩)⟩),
      -- 4
      (fun Q aq ww own hS hBg fr kn => .inl ⟨trivial, fun K hK => wp_value (exec_idx rfl Try.underlying23 size_int kn.1 kn.2.1 hd) (hK _ _ ⟨Touch.refl _ _, rfl⟩)⟩),
      -- 5
      (fun Q aq ww own hS hBg fr kn => .inl ⟨trivial, fun K hK => wp_value (exec_ld rfl kn.1 (load_int (cell0 kn.2.1 hd))) (hK _ _ ⟨Touch.refl _ _, rfl⟩)⟩),
      -- 6
      (fun Q aq ww own hS hBg fr kn => .inl ⟨trivial, fun K hK => wp_value (exec_move rfl fr.1) (hK _ _ ⟨Touch.refl _ _, rfl⟩)⟩),
      -- 7
      (fun Q aq ww own hS hBg fr kn => .inl ⟨trivial, fun K hK => wp_value (exec_move rfl fr.2.2.1) (hK _ _ ⟨Touch.refl _ _, rfl⟩)⟩),
      -- 8
      (fun Q aq ww own hS hBg fr kn => .inl ⟨trivial, fun K hK => wp_value (exec_idx rfl Try.underlying23 size_int kn.1 kn.2.1 ha) (hK _ _ ⟨Touch.refl _ _, rfl⟩)⟩),
      -- 9
      (fun Q aq ww own hS hBg fr kn => .inl ⟨trivial, fun K hK => wp_value (exec_ld rfl kn.1 (load_int (cell0 kn.2.1 ha))) (hK _ _ ⟨Touch.refl _ _, rfl⟩)⟩),
      -- 10
      (fun Q aq ww own hS hBg fr kn => .inl ⟨trivial, fun K hK => wp_value (exec_xor rfl kn.1 kn.2.1 (Ws5 d hd) (Ws5 a ha)) (hK _ _ ⟨Touch.refl _ _, rfl⟩)⟩),
      -- 11
      (fun Q aq ww own hS hBg fr kn => .inl ⟨trivial, fun K hK => stepc enterTurn rfl (args2 kn.1 rfl) (turn_run _ 8 _ (xorw_w (Ws5 d hd) (Ws5 a ha)) (by decide)) (fun w' hb => hK _ _ ⟨touch_below hb, rfl⟩)⟩),
      -- 12
      (fun Q aq ww own hS hBg fr kn => .inl ⟨trivial, fun K hK => wp_value (exec_idx rfl Try.underlying23 size_int kn.1 kn.2.1 hd) (hK _ _ ⟨Touch.refl _ _, rfl⟩)⟩),
      -- 13
      (fun Q aq ww own hS hBg fr kn => .inl ⟨trivial, fun K hK => act_cell rfl (ptr0 kn.1) kn.2.2.1 kn.2.1 hd (fun w2 hg ho => hK _ _ ⟨⟨touch_only ho, hs6 ▸ hg⟩, trivial⟩)⟩),
      trivial⟩ ?_
  intro vs5 own v6 hT5 hs5 kn inj
  clear inj
  replace hR : RowAt v6 b .i64 3 n s6 := kn.1
  clear kn hs5
  replace hT := hT5
  clear hT5 own
  simp only [putAll, Act.put, List.setIfInBounds_toArray, List.set_cons_zero, List.set_cons_succ]
  obtain ⟨s7, hs7⟩ : ∃ f, upd s6 c (addw (s6 c) (s6 d)) = f := ⟨_, rfl⟩
  have Ws7 : ∀ i, i < n → W32 (s7 i) := by rw [← hs7]; exact w32_upd Ws6 (addw_w _ _)
  go_wp2_with fail
  refine wp_region3 (Touch (fun k => k = b) w) v6.heap.size
    [(b, ⟨rowOb .i64 3 n s6, [(13, rowOb .i64 3 n s7)]⟩)]
    [kv (.slice (some ⟨b, 0, none⟩) n cp), kv (.int .i64 (c : Int)), kv (.slice (some ⟨b, 0, none⟩) n cp), kv (.int .i64 (c : Int)), kv (.pointer (some ⟨b, 0 + c, none⟩)), kv (.int .i64 (s6 c)), kv (.slice (some ⟨b, 0, none⟩) n cp), kv (.int .i64 (d : Int)), kv (.pointer (some ⟨b, 0 + d, none⟩)), kv (.int .i64 (s6 d)), kv (.int .i64 (s6 c + s6 d)), kv (.int .i64 (addw (s6 c) (s6 d))), kv (.pointer (some ⟨b, 0 + c, none⟩)), .val fun _ => True]
    [.none, .none, .none, .none, .none, .none, .none, .none, .none, .none, .none, .none, .none, .base 0 1]
    [some 88, some 89, some 90, some 91, some 92, some 93, some 94, some 95, some 96, some 97, some 98, some 99, some 100, none]
    [(0, .slice (some ⟨b, 0, none⟩) n cp), (3, .int .i64 (c : Int)), (4, .int .i64 (d : Int))]
    [[], [], [], [], [.slot 2, .slot 3], [.slot 4, .base 0 0], [], [], [.slot 6, .slot 7], [.slot 8, .base 0 0], [.slot 5, .slot 9], [.slot 10], [.slot 0, .slot 1], [.slot 12, .base 0 0, .slot 11]]
    [.base 0 1] [88, 89, 90, 91, 92, 93, 94, 95, 96, 97, 98, 99, 100]
    rfl (by kernel_rfl) ⟨rfl, rfl, rfl, trivial⟩ (Touch.drew hT) (Nat.le_refl _) ⟨⟨RowAt.lt hR, hR⟩, trivial⟩ ⟨trivial, trivial⟩ (touch_S hT.size)
    ⟨
      -- 0
      (fun Q aq ww own hS hBg fr kn => .inl ⟨trivial, fun K hK => wp_value (exec_move rfl fr.1) (hK _ _ ⟨Touch.refl _ _, rfl⟩)⟩),
      -- 1
      (fun Q aq ww own hS hBg fr kn => .inl ⟨trivial, fun K hK => wp_value (exec_move rfl fr.2.1) (hK _ _ ⟨Touch.refl _ _, rfl⟩)⟩),
      -- 2
      (fun Q aq ww own hS hBg fr kn => .inl ⟨trivial, fun K hK => wp_value (exec_move rfl fr.1) (hK _ _ ⟨Touch.refl _ _, rfl⟩)⟩),
      -- 3
      (fun Q aq ww own hS hBg fr kn => .inl ⟨trivial, fun K hK => wp_value (exec_move rfl fr.2.1) (hK _ _ ⟨Touch.refl _ _, rfl⟩)⟩),
      -- 4
      (fun Q aq ww own hS hBg fr kn => .inl ⟨trivial, fun K hK => wp_value (exec_idx rfl Try.underlying23 size_int kn.1 kn.2.1 hc) (hK _ _ ⟨Touch.refl _ _, rfl⟩)⟩),
      -- 5
      (fun Q aq ww own hS hBg fr kn => .inl ⟨trivial, fun K hK => wp_value (exec_ld rfl kn.1 (load_int (cell0 kn.2.1 hc))) (hK _ _ ⟨Touch.refl _ _, rfl⟩)⟩),
      -- 6
      (fun Q aq ww own hS hBg fr kn => .inl ⟨trivial, fun K hK => wp_value (exec_move rfl fr.1) (hK _ _ ⟨Touch.refl _ _, rfl⟩)⟩),
      -- 7
      (fun Q aq ww own hS hBg fr kn => .inl ⟨trivial, fun K hK => wp_value (exec_move rfl fr.2.2.1) (hK _ _ ⟨Touch.refl _ _, rfl⟩)⟩),
      -- 8
      (fun Q aq ww own hS hBg fr kn => .inl ⟨trivial, fun K hK => wp_value (exec_idx rfl Try.underlying23 size_int kn.1 kn.2.1 hd) (hK _ _ ⟨Touch.refl _ _, rfl⟩)⟩),
      -- 9
      (fun Q aq ww own hS hBg fr kn => .inl ⟨trivial, fun K hK => wp_value (exec_ld rfl kn.1 (load_int (cell0 kn.2.1 hd))) (hK _ _ ⟨Touch.refl _ _, rfl⟩)⟩),
      -- 10
      (fun Q aq ww own hS hBg fr kn => .inl ⟨trivial, fun K hK => wp_value (exec_add rfl kn.1 kn.2.1 (sum_lo (Ws6 c hc) (Ws6 d hd)) (sum_hi (Ws6 c hc) (Ws6 d hd))) (hK _ _ ⟨Touch.refl _ _, rfl⟩)⟩),
      -- 11
      (fun Q aq ww own hS hBg fr kn => .inl ⟨trivial, fun K hK => wp_value (exec_rem rfl kn.1 (sum_nn (Ws6 c hc) (Ws6 d hd)) (sum_hi (Ws6 c hc) (Ws6 d hd))) (hK _ _ ⟨Touch.refl _ _, rfl⟩)⟩),
      -- 12
      (fun Q aq ww own hS hBg fr kn => .inl ⟨trivial, fun K hK => wp_value (exec_idx rfl Try.underlying23 size_int kn.1 kn.2.1 hc) (hK _ _ ⟨Touch.refl _ _, rfl⟩)⟩),
      -- 13
      (fun Q aq ww own hS hBg fr kn => .inl ⟨trivial, fun K hK => act_cell rfl (ptr0 kn.1) kn.2.2.1 kn.2.1 hc (fun w2 hg ho => hK _ _ ⟨⟨touch_only ho, hs7 ▸ hg⟩, trivial⟩)⟩),
      trivial⟩ ?_
  intro vs6 own v7 hT6 hs6 kn inj
  clear inj
  replace hR : RowAt v7 b .i64 3 n s7 := kn.1
  clear kn hs6
  replace hT := hT6
  clear hT6 own
  simp only [putAll, Act.put, List.setIfInBounds_toArray, List.set_cons_zero, List.set_cons_succ]
  obtain ⟨s8, hs8⟩ : ∃ f, upd s7 y (rotw (xorw (s7 y) (s7 c)) 7) = f := ⟨_, rfl⟩
  have Ws8 : ∀ i, i < n → W32 (s8 i) := by rw [← hs8]; exact w32_upd Ws7 (rotw_w 7 (xorw_w (Ws7 y hy) (Ws7 c hc)))
  go_wp2_with fail
  refine wp_region3 (Touch (fun k => k = b) w) v7.heap.size
    [(b, ⟨rowOb .i64 3 n s7, [(13, rowOb .i64 3 n s8)]⟩)]
    [kv (.slice (some ⟨b, 0, none⟩) n cp), kv (.int .i64 (y : Int)), kv (.slice (some ⟨b, 0, none⟩) n cp), kv (.int .i64 (y : Int)), kv (.pointer (some ⟨b, 0 + y, none⟩)), kv (.int .i64 (s7 y)), kv (.slice (some ⟨b, 0, none⟩) n cp), kv (.int .i64 (c : Int)), kv (.pointer (some ⟨b, 0 + c, none⟩)), kv (.int .i64 (s7 c)), kv (.int .i64 (xorw (s7 y) (s7 c))), kv (.int .i64 (rotw (xorw (s7 y) (s7 c)) 7)), kv (.pointer (some ⟨b, 0 + y, none⟩)), .val fun _ => True]
    [.none, .none, .none, .none, .none, .none, .none, .none, .none, .none, .none, .none, .none, .base 0 1]
    [some 101, some 102, some 103, some 104, some 105, some 106, some 107, some 108, some 109, some 110, some 111, some 112, some 113, none]
    [(0, .slice (some ⟨b, 0, none⟩) n cp), (2, .int .i64 (y : Int)), (3, .int .i64 (c : Int))]
    [[], [], [], [], [.slot 2, .slot 3], [.slot 4, .base 0 0], [], [], [.slot 6, .slot 7], [.slot 8, .base 0 0], [.slot 5, .slot 9], [.slot 10], [.slot 0, .slot 1], [.slot 12, .base 0 0, .slot 11]]
    [.base 0 1] [101, 102, 103, 104, 105, 106, 107, 108, 109, 110, 111, 112, 113]
    rfl (by kernel_rfl) ⟨rfl, rfl, rfl, trivial⟩ (Touch.drew hT) (Nat.le_refl _) ⟨⟨RowAt.lt hR, hR⟩, trivial⟩ ⟨trivial, trivial⟩ (touch_S hT.size)
    ⟨
      -- 0
      (fun Q aq ww own hS hBg fr kn => .inl ⟨trivial, fun K hK => wp_value (exec_move rfl fr.1) (hK _ _ ⟨Touch.refl _ _, rfl⟩)⟩),
      -- 1
      (fun Q aq ww own hS hBg fr kn => .inl ⟨trivial, fun K hK => wp_value (exec_move rfl fr.2.1) (hK _ _ ⟨Touch.refl _ _, rfl⟩)⟩),
      -- 2
      (fun Q aq ww own hS hBg fr kn => .inl ⟨trivial, fun K hK => wp_value (exec_move rfl fr.1) (hK _ _ ⟨Touch.refl _ _, rfl⟩)⟩),
      -- 3
      (fun Q aq ww own hS hBg fr kn => .inl ⟨trivial, fun K hK => wp_value (exec_move rfl fr.2.1) (hK _ _ ⟨Touch.refl _ _, rfl⟩)⟩),
      -- 4
      (fun Q aq ww own hS hBg fr kn => .inl ⟨trivial, fun K hK => wp_value (exec_idx rfl Try.underlying23 size_int kn.1 kn.2.1 hy) (hK _ _ ⟨Touch.refl _ _, rfl⟩)⟩),
      -- 5
      (fun Q aq ww own hS hBg fr kn => .inl ⟨trivial, fun K hK => wp_value (exec_ld rfl kn.1 (load_int (cell0 kn.2.1 hy))) (hK _ _ ⟨Touch.refl _ _, rfl⟩)⟩),
      -- 6
      (fun Q aq ww own hS hBg fr kn => .inl ⟨trivial, fun K hK => wp_value (exec_move rfl fr.1) (hK _ _ ⟨Touch.refl _ _, rfl⟩)⟩),
      -- 7
      (fun Q aq ww own hS hBg fr kn => .inl ⟨trivial, fun K hK => wp_value (exec_move rfl fr.2.2.1) (hK _ _ ⟨Touch.refl _ _, rfl⟩)⟩),
      -- 8
      (fun Q aq ww own hS hBg fr kn => .inl ⟨trivial, fun K hK => wp_value (exec_idx rfl Try.underlying23 size_int kn.1 kn.2.1 hc) (hK _ _ ⟨Touch.refl _ _, rfl⟩)⟩),
      -- 9
      (fun Q aq ww own hS hBg fr kn => .inl ⟨trivial, fun K hK => wp_value (exec_ld rfl kn.1 (load_int (cell0 kn.2.1 hc))) (hK _ _ ⟨Touch.refl _ _, rfl⟩)⟩),
      -- 10
      (fun Q aq ww own hS hBg fr kn => .inl ⟨trivial, fun K hK => wp_value (exec_xor rfl kn.1 kn.2.1 (Ws7 y hy) (Ws7 c hc)) (hK _ _ ⟨Touch.refl _ _, rfl⟩)⟩),
      -- 11
      (fun Q aq ww own hS hBg fr kn => .inl ⟨trivial, fun K hK => stepc enterTurn rfl (args2 kn.1 rfl) (turn_run _ 7 _ (xorw_w (Ws7 y hy) (Ws7 c hc)) (by decide)) (fun w' hb => hK _ _ ⟨touch_below hb, rfl⟩)⟩),
      -- 12
      (fun Q aq ww own hS hBg fr kn => .inl ⟨trivial, fun K hK => wp_value (exec_idx rfl Try.underlying23 size_int kn.1 kn.2.1 hy) (hK _ _ ⟨Touch.refl _ _, rfl⟩)⟩),
      -- 13
      (fun Q aq ww own hS hBg fr kn => .inl ⟨trivial, fun K hK => act_cell rfl (ptr0 kn.1) kn.2.2.1 kn.2.1 hy (fun w2 hg ho => hK _ _ ⟨⟨touch_only ho, hs8 ▸ hg⟩, trivial⟩)⟩),
      trivial⟩ ?_
  intro vs7 own v8 hT7 hs7 kn inj
  clear inj
  replace hR : RowAt v8 b .i64 3 n s8 := kn.1
  clear kn hs7
  replace hT := hT7
  clear hT7 own
  simp only [putAll, Act.put, List.setIfInBounds_toArray, List.set_cons_zero, List.set_cons_succ]
  go_wp2_with fail
  rw [qrow_chain s0 a y c d hab hac had hbc hbd hcd hs1 hs2 hs3 hs4 hs5 hs6 hs7 hs8] at hR
  refine bodyPost_end (results_none rfl _ _ _) rfl ?_
  exact ⟨rfl, hR, hT⟩
theorem qrow_w {n : Nat} {s : Nat → Int} {a b c d : Nat} (h : ∀ i, i < n → W32 (s i)) (ha : a < n) (hb : b < n) (hc : c < n) (hd : d < n) : ∀ i, i < n → W32 (qrow s a b c d i) := by
  have hq : (quart ⟨s a, s b, s c, s d⟩).ok := quart_ok ⟨h a ha, h b hb, h c hc, h d hd⟩
  exact w32_upd (w32_upd (w32_upd (w32_upd h hq.a) hq.b) hq.c) hq.d
end Go.Proofs.Ytfgebcemdjplnaa
