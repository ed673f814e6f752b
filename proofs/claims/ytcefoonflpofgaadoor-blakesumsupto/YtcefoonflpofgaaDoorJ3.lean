/-
  Own text. What take of the document's answer for blake does.
-/
import Derived.Test.YtcefoonflpofgaaDoorJ2
namespace Go.Proofs.YtcefoonflpofgaaDoor
open Go.RowKit Go.Proofs
theorem run_bsI (n : Int) (w : World) : (Instr.buildSlice 59 1 #[(0, .int .i64 n)]).run Tryd.prog w = .ok (.slice (some ⟨w.heap.size, 0, none⟩) 1 1) (w.alloc (.cells #[.int .i64 n] 3)) := by simp [go_sem]
theorem act_bsI {o : Oper} {a : Act} {w : World} {K : Act → World → Prop} {Q : Exit → Act → World → Prop} {x : Operand} (ho : o.op = .buildSlice 59 1 #[(0, x)]) {n : Int} (hx : a.eval x = .int .i64 n)
    (h : ∀ v, v.heap[w.heap.size]? = some (.cells (WA .i64 1 fun _ => n) 3 (0, 0)) → Below w.heap.size w v → K (a.put o.dst (.slice (some ⟨w.heap.size, 0, none⟩) 1 1)) v) : o.wp Tryd.prog a w K Q := by
  have hr := run_bsI n w
  unfold Oper.wp execOp
  simp only [ho, List.map_toArray, List.map_cons, List.map_nil, hx, Sem.run_bind, hr, Result.andThen_ok, Sem.run_pure, Oper.upon]
  exact h _ (heap_alloc_new w _) ((Below.refl _ _).alloc (Nat.le_refl _) _)
theorem cat_zero8 (f r : Nat → Int) : ∀ i, i < 0 + 8 → cat 0 f r i = r i := fun i _ => by simp [cat]
theorem touch_mono_false {b : Nat} {u v : World} (h : Touch (fun _ => False) u v) : Touch (fun x => x = b) u v := h.mono (fun _ _ h => h.elim)
theorem RowAt.touch {w w' : World} {g b : Nat} {k : IntKind} {t : TypeId} {n : Nat} {s : Nat → Int} (h : RowAt w g k t n s) (ht : Touch (fun x => x = b) w w') (hg : g ≠ b) : RowAt w' g k t n s := h.block (ht.block g h.lt hg)
theorem begV_false (h V0 : Nat → Int) (t : Int) (h0 : ∀ q, q < 16 → V0 q = if q < 8 then h q else bgn (q - 8)) : ∀ i, i < 16 → upd (upd V0 12 (xorw (V0 12) (t % 4294967296))) 13 (xorw (upd V0 12 (xorw (V0 12) (t % 4294967296)) 13) (t / 4294967296)) i = begV h t false i := fun i hi => by
  have h12 : V0 12 = bgn 4 := h0 12 (by omega)
  have h13 : V0 13 = bgn 5 := h0 13 (by omega)
  unfold upd begV
  by_cases e13 : i = 13
  · subst e13; simp [h13]
  · by_cases e12 : i = 12
    · subst e12; simp [h12]
    · simp [e12, e13, h0 i hi]
theorem begV_true (h V2 : Nat → Int) (t : Int) (h0 : ∀ q, q < 16 → V2 q = begV h t false q) : ∀ i, i < 16 → upd V2 14 (xorw (V2 14) 4294967295) i = begV h t true i := fun i hi => by
  have h14 : V2 14 = bgn 6 := h0 14 (by omega)
  unfold upd
  by_cases e14 : i = 14
  · subst e14; rw [if_pos rfl, h14]; rfl
  · rw [if_neg e14, h0 i hi]
    unfold begV
    simp [e14]
theorem orders_run' (w : World) : Calls Tryd.prog 30 #[] w fun e w' => ∃ bo, e = .returned (.slice (some ⟨bo + 10, 0, none⟩) 10 10) ∧ w.heap.size ≤ bo ∧ (∀ s, s < 10 → w'.cell? ⟨bo + 10, s, none⟩ = some (.slice (some ⟨bo + s, 0, none⟩) 16 16) ∧ ArrAt w' (bo + s) .i64 3 16 (ordI s)) ∧ Below w.heap.size w w' :=
  (orders_run w).mono fun _ _ ⟨h1, h2, h3⟩ => ⟨w.heap.size, h1, Nat.le_refl _, h2, h3⟩
set_option maxHeartbeats 16000000 in
set_option maxRecDepth 100000 in
theorem rtake_run (bh ch bb cb : Nat) (h s : Nat → Int) (t : Int) (last : Bool) (w : World) (hH : RowAt w bh .i64 3 8 h) (hS : RowAt w bb .u8 5 64 s) (hh : ∀ i, i < 8 → W32 (h i)) (hs : Byts 64 s) (ht : 0 ≤ t ∧ t < 4611686018427387904) :
    Calls Tryd.prog 28 #[.slice (some ⟨bh, 0, none⟩) 8 ch, .slice (some ⟨bb, 0, none⟩) 64 cb, .int .i64 t, .bool last] w fun e w' =>
      e = .returned (.tuple #[]) ∧ RowAt w' bh .i64 3 8 (takeF h s t last) ∧ (∀ i, i < 8 → W32 (takeF h s t last i)) ∧ Touch (fun k => k = bh) w w' := by
  have HSB := Hid.mk hs
  go_enter Tryd.func28, Tryd.ntmps28
  go_wp2_with fail
  go_loopg [8, 9] 16 (fun gm mv iv v => ∃ i : Nat, Hid (gm + i = 16) ∧ iv = .int .i64 (i : Int) ∧ v.ownsRow w.heap.size 3 1 mv i (nums .i64 i (bwd s)) ∧ Below w.heap.size w v)
  case atStart => exact ⟨0, Hid.mk rfl, rfl, World.ownsRow_nil _ _ _ _, Below.refl _ _⟩
  case round =>
    obtain ⟨i, HI, rfl, hO, hB⟩ := hrel
    have hi16 : i ≤ 16 := by have := HI.out; omega
    by_cases hil : i < 16
    · go_wp2_with fail
      refine wp_gen (fun v => v.ownsRow w.heap.size 3 1 u8 i (nums .i64 i (bwd s)) ∧ Below w.heap.size w v) ⟨hO, hB⟩ ?_
      clear hO hB
      rintro v0 ⟨hO, hB⟩
      have HS : Hid (∀ u, Below v0.heap.size v0 u → RowAt u bb .u8 5 64 s) := Hid.mk (fun u hu => hS.below (hB.trans (hu.mono hB.size)) hS.lt)
      refine wp_region_cut 35 rfl (by kernel_rfl) (any_region3 (Below v0.heap.size v0) v0.heap.size
        ([] : List (Nat × Cont))
        (kv (u8) :: kv (.slice (some ⟨bb, 0, none⟩) 64 cb) :: kv (.int .i64 ((i : Nat) : Int)) :: kv (.int .i64 ((4 * (i) : Nat) : Int)) :: kv (.pointer (some ⟨bb, 0 + (4 * (i)), none⟩)) :: kv (.int .u8 (s (4 * (i)))) :: kv (.int .i64 (s (4 * (i)))) :: kv (.slice (some ⟨bb, 0, none⟩) 64 cb) :: kv (.int .i64 ((i : Nat) : Int)) :: kv (.int .i64 ((4 * (i) : Nat) : Int)) :: kv (.int .i64 ((4 * (i) + 1 : Nat) : Int)) :: kv (.pointer (some ⟨bb, 0 + (4 * (i) + 1), none⟩)) :: kv (.int .u8 (s (4 * (i) + 1))) :: kv (.int .i64 (s (4 * (i) + 1))) :: kv (.int .i64 (256 * s (4 * (i) + 1))) :: kv (.int .i64 (s (4 * (i)) + 256 * s (4 * (i) + 1))) :: kv (.slice (some ⟨bb, 0, none⟩) 64 cb) :: kv (.int .i64 ((i : Nat) : Int)) :: kv (.int .i64 ((4 * (i) : Nat) : Int)) :: kv (.int .i64 ((4 * (i) + 2 : Nat) : Int)) :: kv (.pointer (some ⟨bb, 0 + (4 * (i) + 2), none⟩)) :: kv (.int .u8 (s (4 * (i) + 2))) :: kv (.int .i64 (s (4 * (i) + 2))) :: kv (.int .i64 (65536 * s (4 * (i) + 2))) :: kv (.int .i64 (s (4 * (i)) + 256 * s (4 * (i) + 1) + 65536 * s (4 * (i) + 2))) :: kv (.slice (some ⟨bb, 0, none⟩) 64 cb) :: kv (.int .i64 ((i : Nat) : Int)) :: kv (.int .i64 ((4 * (i) : Nat) : Int)) :: kv (.int .i64 ((4 * (i) + 3 : Nat) : Int)) :: kv (.pointer (some ⟨bb, 0 + (4 * (i) + 3), none⟩)) :: kv (.int .u8 (s (4 * (i) + 3))) :: kv (.int .i64 (s (4 * (i) + 3))) :: kv (.int .i64 (16777216 * s (4 * (i) + 3))) :: kv (.int .i64 (s (4 * (i)) + 256 * s (4 * (i) + 1) + 65536 * s (4 * (i) + 2) + 16777216 * s (4 * (i) + 3))) :: ks 1 (WA .i64 1 fun _ => s (4 * (i)) + 256 * s (4 * (i) + 1) + 65536 * s (4 * (i) + 2) + 16777216 * s (4 * (i) + 3)) 3 :: [])
        (.none :: .none :: .none :: .none :: .none :: .none :: .none :: .none :: .none :: .none :: .none :: .none :: .none :: .none :: .none :: .none :: .none :: .none :: .none :: .none :: .none :: .none :: .none :: .none :: .none :: .none :: .none :: .none :: .none :: .none :: .none :: .none :: .none :: .none :: .none :: [])
        (some 21 :: some 22 :: some 23 :: some 24 :: some 25 :: some 26 :: some 27 :: some 28 :: some 29 :: some 30 :: some 31 :: some 32 :: some 33 :: some 34 :: some 35 :: some 36 :: some 37 :: some 38 :: some 39 :: some 40 :: some 41 :: some 42 :: some 43 :: some 44 :: some 45 :: some 46 :: some 47 :: some 48 :: some 49 :: some 50 :: some 51 :: some 52 :: some 53 :: some 54 :: some 55 :: [])
        [(8, u8), (1, .slice (some ⟨bb, 0, none⟩) 64 cb), (9, .int .i64 ((i : Nat) : Int))]
        ([] :: [] :: [] :: [.slot 2] :: [.slot 1, .slot 3] :: [.slot 4] :: [.slot 5] :: [] :: [] :: [.slot 8] :: [.slot 9] :: [.slot 7, .slot 10] :: [.slot 11] :: [.slot 12] :: [.slot 13] :: [.slot 6, .slot 14] :: [] :: [] :: [.slot 17] :: [.slot 18] :: [.slot 16, .slot 19] :: [.slot 20] :: [.slot 21] :: [.slot 22] :: [.slot 15, .slot 23] :: [] :: [] :: [.slot 26] :: [.slot 27] :: [.slot 25, .slot 28] :: [.slot 29] :: [.slot 30] :: [.slot 31] :: [.slot 24, .slot 32] :: [.slot 33] :: [])
        [.slot 0, .slot 34, .cont 34 0] (21 :: 22 :: 23 :: 24 :: 25 :: 26 :: 27 :: 28 :: 29 :: 30 :: 31 :: 32 :: 33 :: 34 :: 35 :: 36 :: 37 :: 38 :: 39 :: 40 :: 41 :: 42 :: 43 :: 44 :: 45 :: 46 :: 47 :: 48 :: 49 :: 50 :: 51 :: 52 :: 53 :: 54 :: 55 :: [])
        (by kernel_rfl) ⟨rfl, rfl, rfl, trivial⟩ (Below.refl _ v0).drew (Nat.le_refl _) trivial trivial (below_G (Nat.le_refl _) trivial)
        ⟨
          -- 0
          (fun Q aq ww own hS hBg fr kn => .inl ⟨trivial, fun K hK => wp_value (exec_move rfl fr.1) (hK _ _ ⟨Touch.refl _ _, rfl⟩)⟩),
          -- 1
          (fun Q aq ww own hS hBg fr kn => .inl ⟨trivial, fun K hK => wp_value (exec_move rfl fr.2.1) (hK _ _ ⟨Touch.refl _ _, rfl⟩)⟩),
          -- 2
          (fun Q aq ww own hS hBg fr kn => .inl ⟨trivial, fun K hK => wp_value (exec_move rfl fr.2.2.1) (hK _ _ ⟨Touch.refl _ _, rfl⟩)⟩),
          -- 3
          (fun Q aq ww own hS hBg fr kn => .inl ⟨trivial, fun K hK => wp_value (exec_mulN (m := 4) rfl rfl kn.1 (by omega)) (hK _ _ ⟨Touch.refl _ _, rfl⟩)⟩),
          -- 4
          (fun Q aq ww own hS hBg fr kn => .inl ⟨trivial, fun K hK => wp_value (exec_idx rfl Tryd.underlying41 size_byte kn.1 kn.2.1 (by omega)) (hK _ _ ⟨Touch.refl _ _, rfl⟩)⟩),
          -- 5
          (fun Q aq ww own hS hBg fr kn => .inl ⟨trivial, fun K hK => wp_value (exec_ld rfl kn.1 (run_load8 (cell8 (HS.out ww hS) (by omega)))) (hK _ _ ⟨Touch.refl _ _, rfl⟩)⟩),
          -- 6
          (fun Q aq ww own hS hBg fr kn => .inl ⟨trivial, fun K hK => wp_value (exec_conv rfl kn.1 (conv_bi (HSB.out (4 * (i)) (by omega)) _)) (hK _ _ ⟨Touch.refl _ _, rfl⟩)⟩),
          -- 7
          (fun Q aq ww own hS hBg fr kn => .inl ⟨trivial, fun K hK => wp_value (exec_move rfl fr.2.1) (hK _ _ ⟨Touch.refl _ _, rfl⟩)⟩),
          -- 8
          (fun Q aq ww own hS hBg fr kn => .inl ⟨trivial, fun K hK => wp_value (exec_move rfl fr.2.2.1) (hK _ _ ⟨Touch.refl _ _, rfl⟩)⟩),
          -- 9
          (fun Q aq ww own hS hBg fr kn => .inl ⟨trivial, fun K hK => wp_value (exec_mulN (m := 4) rfl rfl kn.1 (by omega)) (hK _ _ ⟨Touch.refl _ _, rfl⟩)⟩),
          -- 10
          (fun Q aq ww own hS hBg fr kn => .inl ⟨trivial, fun K hK => wp_value (exec_addN (n := 1) rfl kn.1 rfl (by omega)) (hK _ _ ⟨Touch.refl _ _, rfl⟩)⟩),
          -- 11
          (fun Q aq ww own hS hBg fr kn => .inl ⟨trivial, fun K hK => wp_value (exec_idx rfl Tryd.underlying41 size_byte kn.1 kn.2.1 (by omega)) (hK _ _ ⟨Touch.refl _ _, rfl⟩)⟩),
          -- 12
          (fun Q aq ww own hS hBg fr kn => .inl ⟨trivial, fun K hK => wp_value (exec_ld rfl kn.1 (run_load8 (cell8 (HS.out ww hS) (by omega)))) (hK _ _ ⟨Touch.refl _ _, rfl⟩)⟩),
          -- 13
          (fun Q aq ww own hS hBg fr kn => .inl ⟨trivial, fun K hK => wp_value (exec_conv rfl kn.1 (conv_bi (HSB.out (4 * (i) + 1) (by omega)) _)) (hK _ _ ⟨Touch.refl _ _, rfl⟩)⟩),
          -- 14
          (fun Q aq ww own hS hBg fr kn => .inl ⟨trivial, fun K hK => wp_value (exec_mul (m := 256) rfl rfl kn.1 (by have := HSB.out (4 * (i) + 1) (by omega); omega) (by have := HSB.out (4 * (i) + 1) (by omega); omega)) (hK _ _ ⟨Touch.refl _ _, rfl⟩)⟩),
          -- 15
          (fun Q aq ww own hS hBg fr kn => .inl ⟨trivial, fun K hK => wp_value (exec_add rfl kn.1 kn.2.1 (by have h0 := HSB.out (4 * (i)) (by omega); have h1 := HSB.out (4 * (i) + 1) (by omega); omega) (by have h0 := HSB.out (4 * (i)) (by omega); have h1 := HSB.out (4 * (i) + 1) (by omega); omega)) (hK _ _ ⟨Touch.refl _ _, rfl⟩)⟩),
          -- 16
          (fun Q aq ww own hS hBg fr kn => .inl ⟨trivial, fun K hK => wp_value (exec_move rfl fr.2.1) (hK _ _ ⟨Touch.refl _ _, rfl⟩)⟩),
          -- 17
          (fun Q aq ww own hS hBg fr kn => .inl ⟨trivial, fun K hK => wp_value (exec_move rfl fr.2.2.1) (hK _ _ ⟨Touch.refl _ _, rfl⟩)⟩),
          -- 18
          (fun Q aq ww own hS hBg fr kn => .inl ⟨trivial, fun K hK => wp_value (exec_mulN (m := 4) rfl rfl kn.1 (by omega)) (hK _ _ ⟨Touch.refl _ _, rfl⟩)⟩),
          -- 19
          (fun Q aq ww own hS hBg fr kn => .inl ⟨trivial, fun K hK => wp_value (exec_addN (n := 2) rfl kn.1 rfl (by omega)) (hK _ _ ⟨Touch.refl _ _, rfl⟩)⟩),
          -- 20
          (fun Q aq ww own hS hBg fr kn => .inl ⟨trivial, fun K hK => wp_value (exec_idx rfl Tryd.underlying41 size_byte kn.1 kn.2.1 (by omega)) (hK _ _ ⟨Touch.refl _ _, rfl⟩)⟩),
          -- 21
          (fun Q aq ww own hS hBg fr kn => .inl ⟨trivial, fun K hK => wp_value (exec_ld rfl kn.1 (run_load8 (cell8 (HS.out ww hS) (by omega)))) (hK _ _ ⟨Touch.refl _ _, rfl⟩)⟩),
          -- 22
          (fun Q aq ww own hS hBg fr kn => .inl ⟨trivial, fun K hK => wp_value (exec_conv rfl kn.1 (conv_bi (HSB.out (4 * (i) + 2) (by omega)) _)) (hK _ _ ⟨Touch.refl _ _, rfl⟩)⟩),
          -- 23
          (fun Q aq ww own hS hBg fr kn => .inl ⟨trivial, fun K hK => wp_value (exec_mul (m := 65536) rfl rfl kn.1 (by have := HSB.out (4 * (i) + 2) (by omega); omega) (by have := HSB.out (4 * (i) + 2) (by omega); omega)) (hK _ _ ⟨Touch.refl _ _, rfl⟩)⟩),
          -- 24
          (fun Q aq ww own hS hBg fr kn => .inl ⟨trivial, fun K hK => wp_value (exec_add rfl kn.1 kn.2.1 (by have h0 := HSB.out (4 * (i)) (by omega); have h1 := HSB.out (4 * (i) + 1) (by omega); have h2 := HSB.out (4 * (i) + 2) (by omega); omega) (by have h0 := HSB.out (4 * (i)) (by omega); have h1 := HSB.out (4 * (i) + 1) (by omega); have h2 := HSB.out (4 * (i) + 2) (by omega); omega)) (hK _ _ ⟨Touch.refl _ _, rfl⟩)⟩),
          -- 25
          (fun Q aq ww own hS hBg fr kn => .inl ⟨trivial, fun K hK => wp_value (exec_move rfl fr.2.1) (hK _ _ ⟨Touch.refl _ _, rfl⟩)⟩),
          -- 26
          (fun Q aq ww own hS hBg fr kn => .inl ⟨trivial, fun K hK => wp_value (exec_move rfl fr.2.2.1) (hK _ _ ⟨Touch.refl _ _, rfl⟩)⟩),
          -- 27
          (fun Q aq ww own hS hBg fr kn => .inl ⟨trivial, fun K hK => wp_value (exec_mulN (m := 4) rfl rfl kn.1 (by omega)) (hK _ _ ⟨Touch.refl _ _, rfl⟩)⟩),
          -- 28
          (fun Q aq ww own hS hBg fr kn => .inl ⟨trivial, fun K hK => wp_value (exec_addN (n := 3) rfl kn.1 rfl (by omega)) (hK _ _ ⟨Touch.refl _ _, rfl⟩)⟩),
          -- 29
          (fun Q aq ww own hS hBg fr kn => .inl ⟨trivial, fun K hK => wp_value (exec_idx rfl Tryd.underlying41 size_byte kn.1 kn.2.1 (by omega)) (hK _ _ ⟨Touch.refl _ _, rfl⟩)⟩),
          -- 30
          (fun Q aq ww own hS hBg fr kn => .inl ⟨trivial, fun K hK => wp_value (exec_ld rfl kn.1 (run_load8 (cell8 (HS.out ww hS) (by omega)))) (hK _ _ ⟨Touch.refl _ _, rfl⟩)⟩),
          -- 31
          (fun Q aq ww own hS hBg fr kn => .inl ⟨trivial, fun K hK => wp_value (exec_conv rfl kn.1 (conv_bi (HSB.out (4 * (i) + 3) (by omega)) _)) (hK _ _ ⟨Touch.refl _ _, rfl⟩)⟩),
          -- 32
          (fun Q aq ww own hS hBg fr kn => .inl ⟨trivial, fun K hK => wp_value (exec_mul (m := 16777216) rfl rfl kn.1 (by have := HSB.out (4 * (i) + 3) (by omega); omega) (by have := HSB.out (4 * (i) + 3) (by omega); omega)) (hK _ _ ⟨Touch.refl _ _, rfl⟩)⟩),
          -- 33
          (fun Q aq ww own hS hBg fr kn => .inl ⟨trivial, fun K hK => wp_value (exec_add rfl kn.1 kn.2.1 (by have h0 := HSB.out (4 * (i)) (by omega); have h1 := HSB.out (4 * (i) + 1) (by omega); have h2 := HSB.out (4 * (i) + 2) (by omega); have h3 := HSB.out (4 * (i) + 3) (by omega); omega) (by have h0 := HSB.out (4 * (i)) (by omega); have h1 := HSB.out (4 * (i) + 1) (by omega); have h2 := HSB.out (4 * (i) + 2) (by omega); have h3 := HSB.out (4 * (i) + 3) (by omega); omega)) (hK _ _ ⟨Touch.refl _ _, rfl⟩)⟩),
          -- 34
          (fun Q aq ww own hS hBg fr kn => .inl ⟨trivial, fun K hK => act_bsI rfl kn.1 (fun v hg hb => hK _ _ ⟨touch_below hb, _, Nat.le_refl _, rfl, obIn hg⟩)⟩),
          trivial⟩ ?_)
      intro vs own v5 hB5 hs5 kn inj
      clear inj hs5
      have e21 : vs 21 = u8 := kn.1
      obtain ⟨e55, hb55, _⟩ := kn.2.1
      change vs 55 = _ at e55
      have g55 : ArrAt v5 (own 34) .i64 3 1 (fun _ => bwd s i) := obAt kn.2.2.1
      clear kn
      generalize own 34 = bo at *
      replace hO := own_kept hO hB5
      replace hB := hB.trans (hB5.mono hB.size)
      have HBS := Hid.mk hB.size
      clear hB5
      show wpList Tryd.prog _ _ (_ :: _ :: []) _ _
      simp only [putAll, Act.put, List.setIfInBounds_toArray, List.set_cons_zero, List.set_cons_succ, e21, e55]
      go_wp2_with (at_builtin; refine ap_own rfl _ _ 59 3 .i64 8 Tryd.underlying59 infoInt (by decide) (by rfl) (n := i) (m := 1) (by rfl) hO (by rfl) (r := fun _ => bwd s i) (fun j hj => by rw [Nat.zero_add]; exact g55.cell j hj) (by omega) HBS.out ?_; intro vb v6 h6 hb6; refine Hid.out ?_)
      rw [nums_congr (cat_one i (bwd s))] at h6
      replace hB := hB.trans hb6
      clear hb6 hO g55 HS HBS e21 e55 hb55
      refine Hid.mk ?_
      go_wp2_with fail
      go_roundg (16 - (i + 1))
      case rel => exact ⟨i + 1, Hid.mk (by omega), by go_num, h6, hB⟩
      case measure => have := HI.out; omega
    · have hi2 : i = 16 := by omega
      subst hi2
      obtain ⟨bm, cm, rfl, hbm, hcm, hM⟩ := own_row hO (by decide)
      clear hO hil hi16 HI
      cases last with
      | false =>
        have HR : Hid (∀ j, j < 8 → (wr.alloc (.cells #[] 3)).cell? ⟨bh, 0 + j, none⟩ = some (.int .i64 (h j))) := Hid.mk (fun j hj => by rw [Nat.zero_add]; exact ((hH.below hB hH.lt).alloc _).cell j hj)
        go_wp2_with (at_builtin; refine ap_full rfl _ _ 59 3 .i64 8 Tryd.underlying59 infoInt (by decide) (by rfl) (n := 0) (m := 8) (f := h) (by rfl) (fun j hj => by omega) (by rfl) (r := h) HR.out (by decide) (by decide) ?_; intro va v1 h1 hb1; refine Hid.out ?_)
        clear HR
        rw [nums_congr (cat_zero8 h h)] at h1
        have hz1 : wr.heap.size + 1 ≤ v1.heap.size := by have := hb1.size; simpa using this
        replace h1 : v1.ownsRow (wr.heap.size + 1) 3 1 va 8 (nums .i64 8 h) := by simpa using h1
        have hb1' : Below wr.heap.size wr v1 := ((Below.refl _ wr).alloc (Nat.le_refl _) _).trans (hb1.mono (by simp))
        clear hb1
        refine Hid.mk ?_
        go_wp2_with fail
        refine (begin_run _).mono ?_
        rintro e v2 ⟨rfl, gB, hb2⟩
        replace h1 := own_kept h1 hb2
        have HZ2 : Hid (wr.heap.size + 1 ≤ v2.heap.size) := Hid.mk (by have := hb2.size; omega)
        have hb2' : Below wr.heap.size wr v2 := hb1'.trans (hb2.mono (by omega))
        clear hb2 hb1'
        go_wp2_with (at_builtin; refine ap_own rfl _ _ 59 3 .i64 8 Tryd.underlying59 infoInt (by decide) (by rfl) (n := 8) (m := 8) (by rfl) h1 (by rfl) (r := bgn) (fun j hj => by rw [Nat.zero_add]; exact gB.cell j hj) (by decide) HZ2.out ?_; intro vb v3 h3 hb3; refine Hid.out ?_)
        have hb3' : Below wr.heap.size wr v3 := hb2'.trans (hb3.mono (by omega))
        clear hb3 hb2' gB h1 HZ2
        obtain ⟨bv, cv, rfl, hbv, hcv, hV⟩ := own_row h3 (by decide)
        clear h3
        have W0 : ∀ i, i < 16 → W32 (cat 8 h bgn i) := fun i hi => by
          unfold cat
          split
          · exact hh i (by omega)
          · exact bgn_w _
        have HQ0 : Hid (∀ q, q < 16 → cat 8 h bgn q = if q < 8 then h q else bgn (q - 8)) := Hid.mk (fun q _ => rfl)
        replace hV : RowAt v3 bv .i64 3 16 (cat 8 h bgn) := hV
        generalize cat 8 h bgn = V0 at *
        have hbv' : wr.heap.size < bv := by omega
        clear hbv
        have hMv := hM.below hb3' hM.lt
        have hHv := (hH.below hB hH.lt).below hb3' (Nat.lt_of_lt_of_le hH.lt hB.size)
        have hB3 := hB.trans (hb3'.mono hB.size)
        have hzz : bm < wr.heap.size := hM.lt
        have hzh : bh < w.heap.size := hH.lt
        have hzw := hB.size
        clear hM hb3' hB
        have e1 : t.tmod 4294967296 = t % 4294967296 := Int.tmod_eq_emod_of_nonneg ht.1
        have e2 : t.tdiv 4294967296 = t / 4294967296 := Int.tdiv_eq_ediv_of_nonneg ht.1
        have T1 : W32 (t % 4294967296) := by unfold W32; omega
        have T2 : W32 (t / 4294967296) := by unfold W32; omega
        have c12 := hV.cell 12 (by omega)
        have f12 := hV.free 12 (by omega)
        have x12 : bits .xor .i64 (V0 12) (t % 4294967296) = xorw (V0 12) (t % 4294967296) := i64_xor (W0 12 (by omega)) T1
        have hV1 := hV.set 12 (xorw (V0 12) (t % 4294967296))
        have o12 : Only bv v3 _ := only_set (w := v3) (g := bv) (i := 12) (v := .int .i64 (xorw (V0 12) (t % 4294967296)))
        have W1 : ∀ i, i < 16 → W32 (upd V0 12 (xorw (V0 12) (t % 4294967296)) i) := w32_upd W0 (xorw_w (W0 12 (by omega)) T1)
        obtain ⟨V1, hV1e⟩ : ∃ V1, V1 = upd V0 12 (xorw (V0 12) (t % 4294967296)) := ⟨_, rfl⟩
        rw [← hV1e] at hV1 W1
        have c13 := hV1.cell 13 (by omega)
        have f13 := hV1.free 13 (by omega)
        have x13 : bits .xor .i64 (V1 13) (t / 4294967296) = xorw (V1 13) (t / 4294967296) := i64_xor (W1 13 (by omega)) T2
        have hV2 := hV1.set 13 (xorw (V1 13) (t / 4294967296))
        have o13 : Only bv _ _ := only_set (w := (v3.setCell ⟨bv, 12, none⟩ (.int .i64 (xorw (V0 12) (t % 4294967296))))) (g := bv) (i := 13) (v := .int .i64 (xorw (V1 13) (t / 4294967296)))
        have W2 : ∀ i, i < 16 → W32 (upd V1 13 (xorw (V1 13) (t / 4294967296)) i) := w32_upd W1 (xorw_w (W1 13 (by omega)) T2)
        obtain ⟨V2, hV2e⟩ : ∃ V2, V2 = upd V1 13 (xorw (V1 13) (t / 4294967296)) := ⟨_, rfl⟩
        rw [← hV2e] at hV2 W2
        have TT := (touch_only o12).trans (touch_only o13)
        have HV1e := Hid.mk hV1e
        have HV2e := Hid.mk hV2e
        clear hV1e hV2e o12 o13 hV hV1
        have HB2 := Hid.mk (begV_false h V0 t HQ0.out)
        replace hV2 := hV2.mono (Nat.le_refl _) (s' := begV h t false) (fun i hi => by rw [HV2e.out, HV1e.out]; exact HB2.out i hi)
        replace W2 : ∀ i, i < 16 → W32 (begV h t false i) := fun i hi => by rw [← HB2.out i hi, ← HV1e.out, ← HV2e.out]; exact W2 i hi
        clear HV2e HB2
        refine Hid.mk ?_
        go_wp2_with fail
        refine (orders_run' _).mono ?_
        rintro e v5 ⟨bo, rfl, hbo, hord, hb5⟩
        replace hbo : v3.heap.size ≤ bo := by simpa using hbo
        have hV5 : RowAt v5 bv .i64 3 16 (begV h t false) := hV2.below hb5 hV2.lt
        have hM5 : RowAt v5 bm .i64 3 16 (bwd s) := (hMv.touch TT (by omega)).below hb5 (hMv.touch TT (by omega)).lt
        have hH5 : RowAt v5 bh .i64 3 8 h := (hHv.touch TT (by omega)).below hb5 (hHv.touch TT (by omega)).lt
        have hlv : bv < bo := by have := hV2.lt; simp at this; omega
        have hB5 : Below w.heap.size w v5 := (hB3.trans (below_touch TT (by omega) hB3.size)).trans (hb5.mono (by simp; exact hB3.size))
        clear hV2 hMv hHv hB3 hb5 TT c12 c13 f12 f13 x12 x13 e1 e2 T1 T2 W0 W1 HQ0 HV1e
        have WV0 : Hid (∀ i, i < 16 → W32 (begV h t false i)) := Hid.mk W2
        clear W2
        go_wp2_with fail
        generalize wr = wo at *
        go_loopg [12] 10 (fun gm iv v => ∃ k : Nat, Hid (gm + k = 10) ∧ iv = .int .i64 (k : Int) ∧ RowAt v bv .i64 3 16 (tenB (bwd s) (begV h t false) k) ∧ Hid (∀ i, i < 16 → W32 (tenB (bwd s) (begV h t false) k i)) ∧ Touch (fun x => x = bv) v5 v)
        case atStart => exact ⟨0, Hid.mk rfl, rfl, hV5, WV0, Touch.refl _ _⟩
        case round =>
          obtain ⟨k, HK, rfl, hV, HW, hT⟩ := hrel
          have hk10 : k ≤ 10 := by have := HK.out; omega
          by_cases hk : k < 10
          · have hcell : wr.cell? ⟨bo + 10, k, none⟩ = some (.slice (some ⟨bo + k, 0, none⟩) 16 16) := by
              rw [← (hord k hk).1]
              exact World.cell?_of_block (hT.block (bo + 10) (World.block_lt_of_cell? _ _ (hord k hk).1) (by omega))
            have hord5 : RowAt v5 (bo + k) .i64 3 16 (ordI k) := (hord k hk).2.row
            have HN : Hid (diaB (bwd s) k (colB (bwd s) k (tenB (bwd s) (begV h t false) k) 4) 4 = tenB (bwd s) (begV h t false) (k + 1)) := Hid.mk rfl
            generalize tenB (bwd s) (begV h t false) k = X at *
            have hd : decide ((k : Int) < 10) = true := by simp; omega
            go_wp2_with fail
            generalize wr = wo1 at *
            clear hcell
            go_loopg [14] 4 (fun gm iv v => ∃ j : Nat, Hid (gm + j = 4) ∧ iv = .int .i64 (j : Int) ∧ RowAt v bv .i64 3 16 (colB (bwd s) k X j) ∧ Hid (∀ i, i < 16 → W32 (colB (bwd s) k X j i)) ∧ Touch (fun x => x = bv) v5 v)
            case atStart => exact ⟨0, Hid.mk rfl, rfl, hV, HW, hT⟩
            case round =>
              clear hV HW hT
              obtain ⟨j, HJ, rfl, hV, HW, hT⟩ := hrel
              have hj4 : j ≤ 4 := by have := HJ.out; omega
              by_cases hj : j < 4
              · have hWV := HW.out
                clear HW
                have o1 := ord_lt k hk (2 * j) (by omega)
                have o2 := ord_lt k hk (2 * j + 1) (by omega)
                go_wp2_with fail
                refine wp_gen (fun v => RowAt v bv .i64 3 16 (colB (bwd s) k X j) ∧ Touch (fun x => x = bv) v5 v) ⟨hV, hT⟩ ?_
                clear hV hT
                rintro v0 ⟨hV, hT⟩
                have HOR : Hid (∀ u, Below v0.heap.size v0 u → RowAt u (bo + k) .i64 3 16 (ordI k)) := Hid.mk (fun u hu => (hord5.touch hT (by omega)).below hu (hord5.touch hT (by omega)).lt)
                have HM : Hid (∀ u, Below v0.heap.size v0 u → RowAt u bm .i64 3 16 (bwd s)) := Hid.mk (fun u hu => (hM5.touch hT (by omega)).below hu (hM5.touch hT (by omega)).lt)
                refine wp_region_cut 25 rfl (by kernel_rfl) (any_region3 (Below v0.heap.size v0) v0.heap.size
                  ([] : List (Nat × Cont))
                  [kv (.slice (some ⟨bv, 0, none⟩) 16 cv), kv (.int .i64 ((j : Nat) : Int)), kv (.int .i64 ((j : Nat) : Int)), kv (.int .i64 ((4 + j : Nat) : Int)), kv (.int .i64 ((j : Nat) : Int)), kv (.int .i64 ((8 + j : Nat) : Int)), kv (.int .i64 ((j : Nat) : Int)), kv (.int .i64 ((12 + j : Nat) : Int)), kv (.slice (some ⟨bm, 0, none⟩) 16 cm), kv (.slice (some ⟨bo + k, 0, none⟩) 16 16), kv (.int .i64 ((j : Nat) : Int)), kv (.int .i64 ((2 * (j) : Nat) : Int)), kv (.pointer (some ⟨bo + k, 0 + (2 * (j)), none⟩)), kv (.int .i64 (((ord k (2 * (j)) : Nat) : Int))), kv (.pointer (some ⟨bm, 0 + (ord k (2 * (j))), none⟩)), kv (.int .i64 (bwd s (ord k (2 * (j))))), kv (.slice (some ⟨bm, 0, none⟩) 16 cm), kv (.slice (some ⟨bo + k, 0, none⟩) 16 16), kv (.int .i64 ((j : Nat) : Int)), kv (.int .i64 ((2 * (j) : Nat) : Int)), kv (.int .i64 ((2 * (j) + 1 : Nat) : Int)), kv (.pointer (some ⟨bo + k, 0 + (2 * (j) + 1), none⟩)), kv (.int .i64 (((ord k (2 * (j) + 1) : Nat) : Int))), kv (.pointer (some ⟨bm, 0 + (ord k (2 * (j) + 1)), none⟩)), kv (.int .i64 (bwd s (ord k (2 * (j) + 1))))]
                  [.none, .none, .none, .none, .none, .none, .none, .none, .none, .none, .none, .none, .none, .none, .none, .none, .none, .none, .none, .none, .none, .none, .none, .none, .none]
                  [some 98, some 99, some 100, some 101, some 102, some 103, some 104, some 105, some 106, some 107, some 108, some 109, some 110, some 111, some 112, some 113, some 114, some 115, some 116, some 117, some 118, some 119, some 120, some 121, some 122]
                  [(10, .slice (some ⟨bv, 0, none⟩) 16 cv), (8, .slice (some ⟨bm, 0, none⟩) 16 cm), (13, .slice (some ⟨bo + k, 0, none⟩) 16 16), (14, .int .i64 ((j : Nat) : Int))]
                  [[], [], [], [.slot 2], [], [.slot 4], [], [.slot 6], [], [], [], [.slot 10], [.slot 9, .slot 11], [.slot 12], [.slot 8, .slot 13], [.slot 14], [], [], [], [.slot 18], [.slot 19], [.slot 17, .slot 20], [.slot 21], [.slot 16, .slot 22], [.slot 23]]
                  [.slot 0, .slot 1, .slot 3, .slot 5, .slot 7, .slot 15, .slot 24] [98, 99, 100, 101, 102, 103, 104, 105, 106, 107, 108, 109, 110, 111, 112, 113, 114, 115, 116, 117, 118, 119, 120, 121, 122]
                  (by kernel_rfl) ⟨rfl, rfl, rfl, rfl, trivial⟩ (Below.refl _ v0).drew (Nat.le_refl _) trivial trivial (below_G (Nat.le_refl _) trivial)
                  ⟨
                    -- 0
                    (fun Q aq ww own hS hBg fr kn => .inl ⟨trivial, fun K hK => wp_value (exec_move rfl fr.1) (hK _ _ ⟨Touch.refl _ _, rfl⟩)⟩),
                    -- 1
                    (fun Q aq ww own hS hBg fr kn => .inl ⟨trivial, fun K hK => wp_value (exec_move rfl fr.2.2.2.1) (hK _ _ ⟨Touch.refl _ _, rfl⟩)⟩),
                    -- 2
                    (fun Q aq ww own hS hBg fr kn => .inl ⟨trivial, fun K hK => wp_value (exec_move rfl fr.2.2.2.1) (hK _ _ ⟨Touch.refl _ _, rfl⟩)⟩),
                    -- 3
                    (fun Q aq ww own hS hBg fr kn => .inl ⟨trivial, fun K hK => wp_value (exec_addN (m := 4) rfl rfl kn.1 (by omega)) (hK _ _ ⟨Touch.refl _ _, rfl⟩)⟩),
                    -- 4
                    (fun Q aq ww own hS hBg fr kn => .inl ⟨trivial, fun K hK => wp_value (exec_move rfl fr.2.2.2.1) (hK _ _ ⟨Touch.refl _ _, rfl⟩)⟩),
                    -- 5
                    (fun Q aq ww own hS hBg fr kn => .inl ⟨trivial, fun K hK => wp_value (exec_addN (m := 8) rfl rfl kn.1 (by omega)) (hK _ _ ⟨Touch.refl _ _, rfl⟩)⟩),
                    -- 6
                    (fun Q aq ww own hS hBg fr kn => .inl ⟨trivial, fun K hK => wp_value (exec_move rfl fr.2.2.2.1) (hK _ _ ⟨Touch.refl _ _, rfl⟩)⟩),
                    -- 7
                    (fun Q aq ww own hS hBg fr kn => .inl ⟨trivial, fun K hK => wp_value (exec_addN (m := 12) rfl rfl kn.1 (by omega)) (hK _ _ ⟨Touch.refl _ _, rfl⟩)⟩),
                    -- 8
                    (fun Q aq ww own hS hBg fr kn => .inl ⟨trivial, fun K hK => wp_value (exec_move rfl fr.2.1) (hK _ _ ⟨Touch.refl _ _, rfl⟩)⟩),
                    -- 9
                    (fun Q aq ww own hS hBg fr kn => .inl ⟨trivial, fun K hK => wp_value (exec_move rfl fr.2.2.1) (hK _ _ ⟨Touch.refl _ _, rfl⟩)⟩),
                    -- 10
                    (fun Q aq ww own hS hBg fr kn => .inl ⟨trivial, fun K hK => wp_value (exec_move rfl fr.2.2.2.1) (hK _ _ ⟨Touch.refl _ _, rfl⟩)⟩),
                    -- 11
                    (fun Q aq ww own hS hBg fr kn => .inl ⟨trivial, fun K hK => wp_value (exec_mulN (m := 2) rfl rfl kn.1 (by omega)) (hK _ _ ⟨Touch.refl _ _, rfl⟩)⟩),
                    -- 12
                    (fun Q aq ww own hS hBg fr kn => .inl ⟨trivial, fun K hK => wp_value (exec_idx rfl Tryd.underlying59 size_int kn.1 kn.2.1 (by omega)) (hK _ _ ⟨Touch.refl _ _, rfl⟩)⟩),
                    -- 13
                    (fun Q aq ww own hS hBg fr kn => .inl ⟨trivial, fun K hK => wp_value (exec_ld rfl kn.1 (load_int (cell0 (HOR.out ww hS) (by omega)))) (hK _ _ ⟨Touch.refl _ _, rfl⟩)⟩),
                    -- 14
                    (fun Q aq ww own hS hBg fr kn => .inl ⟨trivial, fun K hK => wp_value (exec_idx rfl Tryd.underlying59 size_int kn.1 kn.2.1 (by omega)) (hK _ _ ⟨Touch.refl _ _, rfl⟩)⟩),
                    -- 15
                    (fun Q aq ww own hS hBg fr kn => .inl ⟨trivial, fun K hK => wp_value (exec_ld rfl kn.1 (load_int (cell0 (HM.out ww hS) (by omega)))) (hK _ _ ⟨Touch.refl _ _, rfl⟩)⟩),
                    -- 16
                    (fun Q aq ww own hS hBg fr kn => .inl ⟨trivial, fun K hK => wp_value (exec_move rfl fr.2.1) (hK _ _ ⟨Touch.refl _ _, rfl⟩)⟩),
                    -- 17
                    (fun Q aq ww own hS hBg fr kn => .inl ⟨trivial, fun K hK => wp_value (exec_move rfl fr.2.2.1) (hK _ _ ⟨Touch.refl _ _, rfl⟩)⟩),
                    -- 18
                    (fun Q aq ww own hS hBg fr kn => .inl ⟨trivial, fun K hK => wp_value (exec_move rfl fr.2.2.2.1) (hK _ _ ⟨Touch.refl _ _, rfl⟩)⟩),
                    -- 19
                    (fun Q aq ww own hS hBg fr kn => .inl ⟨trivial, fun K hK => wp_value (exec_mulN (m := 2) rfl rfl kn.1 (by omega)) (hK _ _ ⟨Touch.refl _ _, rfl⟩)⟩),
                    -- 20
                    (fun Q aq ww own hS hBg fr kn => .inl ⟨trivial, fun K hK => wp_value (exec_addN (n := 1) rfl kn.1 rfl (by omega)) (hK _ _ ⟨Touch.refl _ _, rfl⟩)⟩),
                    -- 21
                    (fun Q aq ww own hS hBg fr kn => .inl ⟨trivial, fun K hK => wp_value (exec_idx rfl Tryd.underlying59 size_int kn.1 kn.2.1 (by omega)) (hK _ _ ⟨Touch.refl _ _, rfl⟩)⟩),
                    -- 22
                    (fun Q aq ww own hS hBg fr kn => .inl ⟨trivial, fun K hK => wp_value (exec_ld rfl kn.1 (load_int (cell0 (HOR.out ww hS) (by omega)))) (hK _ _ ⟨Touch.refl _ _, rfl⟩)⟩),
                    -- 23
                    (fun Q aq ww own hS hBg fr kn => .inl ⟨trivial, fun K hK => wp_value (exec_idx rfl Tryd.underlying59 size_int kn.1 kn.2.1 (by omega)) (hK _ _ ⟨Touch.refl _ _, rfl⟩)⟩),
                    -- 24
                    (fun Q aq ww own hS hBg fr kn => .inl ⟨trivial, fun K hK => wp_value (exec_ld rfl kn.1 (load_int (cell0 (HM.out ww hS) (by omega)))) (hK _ _ ⟨Touch.refl _ _, rfl⟩)⟩),
                    trivial⟩ ?_)
                intro vs own v6 hB6 hs6 kn inj
                clear inj hs6
                have e98 : vs 98 = _ := kn.1
                have e99 : vs 99 = _ := kn.2.1
                have e101 : vs 101 = _ := kn.2.2.1
                have e103 : vs 103 = _ := kn.2.2.2.1
                have e105 : vs 105 = _ := kn.2.2.2.2.1
                have e113 : vs 113 = _ := kn.2.2.2.2.2.1
                have e122 : vs 122 = _ := kn.2.2.2.2.2.2.1
                clear kn HOR HM
                replace hV := hV.below hB6 hV.lt
                replace hT := hT.trans (touch_mono_false (touch_below hB6))
                clear hB6
                show wpList Tryd.prog _ _ (_ :: []) _ _
                simp only [putAll, Act.put, List.setIfInBounds_toArray, List.set_cons_zero, List.set_cons_succ, e98, e99, e101, e103, e105, e113, e122]
                go_wp2_with fail
                refine (rmix_run bv 16 cv _ j (4 + j) (8 + j) (12 + j) (bwd s (ord k (2 * j))) (bwd s (ord k (2 * j + 1))) _ hV hWV (by omega) (by omega) (by omega) (by omega) (bwd_w HSB.out (by omega)) (bwd_w HSB.out (by omega))).mono ?_
                rintro e v7 ⟨rfl, hV7, hW7, hT7⟩
                replace hT := hT.trans hT7
                clear hT7 hV hWV
                go_wp2_with fail
                go_roundg (4 - (j + 1))
                case rel => exact ⟨j + 1, Hid.mk (by omega), by go_num, hV7, Hid.mk hW7, hT⟩
                case measure => have := HJ.out; omega
              · have hj2 : j = 4 := by omega
                subst hj2
                clear hj hj4 HJ
                generalize colB (bwd s) k X 4 = Y at *
                go_wp2_with fail
                rw [show ((4 : Nat) : Int) = 4 from rfl]
                generalize wr = wo2 at *
                go_loopg [15] 4 (fun gm iv v => ∃ j : Nat, Hid (gm + j = 4) ∧ iv = .int .i64 (j : Int) ∧ RowAt v bv .i64 3 16 (diaB (bwd s) k Y j) ∧ Hid (∀ i, i < 16 → W32 (diaB (bwd s) k Y j i)) ∧ Touch (fun x => x = bv) v5 v)
                case atStart => exact ⟨0, Hid.mk rfl, rfl, hV, HW, hT⟩
                case round =>
                  clear hV HW hT
                  obtain ⟨j, HJ, rfl, hV, HW, hT⟩ := hrel
                  have hj4 : j ≤ 4 := by have := HJ.out; omega
                  by_cases hj : j < 4
                  · have hWV := HW.out
                    clear HW
                    have o1 := ord_lt k hk (8 + 2 * j) (by omega)
                    have o2 := ord_lt k hk (9 + 2 * j) (by omega)
                    go_wp2_with fail
                    refine wp_gen (fun v => RowAt v bv .i64 3 16 (diaB (bwd s) k Y j) ∧ Touch (fun x => x = bv) v5 v) ⟨hV, hT⟩ ?_
                    clear hV hT
                    rintro v0 ⟨hV, hT⟩
                    have HOR : Hid (∀ u, Below v0.heap.size v0 u → RowAt u (bo + k) .i64 3 16 (ordI k)) := Hid.mk (fun u hu => (hord5.touch hT (by omega)).below hu (hord5.touch hT (by omega)).lt)
                    have HM : Hid (∀ u, Below v0.heap.size v0 u → RowAt u bm .i64 3 16 (bwd s)) := Hid.mk (fun u hu => (hM5.touch hT (by omega)).below hu (hM5.touch hT (by omega)).lt)
                    refine wp_region_cut 32 rfl (by kernel_rfl) (any_region3 (Below v0.heap.size v0) v0.heap.size
                      ([] : List (Nat × Cont))
                      (kv (.slice (some ⟨bv, 0, none⟩) 16 cv) :: kv (.int .i64 ((j : Nat) : Int)) :: kv (.int .i64 ((j : Nat) : Int)) :: kv (.int .i64 ((j + 1 : Nat) : Int)) :: kv (.int .i64 (((j + 1) % 4 : Nat) : Int)) :: kv (.int .i64 ((4 + (j + 1) % 4 : Nat) : Int)) :: kv (.int .i64 ((j : Nat) : Int)) :: kv (.int .i64 ((j + 2 : Nat) : Int)) :: kv (.int .i64 (((j + 2) % 4 : Nat) : Int)) :: kv (.int .i64 ((8 + (j + 2) % 4 : Nat) : Int)) :: kv (.int .i64 ((j : Nat) : Int)) :: kv (.int .i64 ((j + 3 : Nat) : Int)) :: kv (.int .i64 (((j + 3) % 4 : Nat) : Int)) :: kv (.int .i64 ((12 + (j + 3) % 4 : Nat) : Int)) :: kv (.slice (some ⟨bm, 0, none⟩) 16 cm) :: kv (.slice (some ⟨bo + k, 0, none⟩) 16 16) :: kv (.int .i64 ((j : Nat) : Int)) :: kv (.int .i64 ((2 * (j) : Nat) : Int)) :: kv (.int .i64 ((8 + 2 * (j) : Nat) : Int)) :: kv (.pointer (some ⟨bo + k, 0 + (8 + 2 * (j)), none⟩)) :: kv (.int .i64 (((ord k (8 + 2 * (j)) : Nat) : Int))) :: kv (.pointer (some ⟨bm, 0 + (ord k (8 + 2 * (j))), none⟩)) :: kv (.int .i64 (bwd s (ord k (8 + 2 * (j))))) :: kv (.slice (some ⟨bm, 0, none⟩) 16 cm) :: kv (.slice (some ⟨bo + k, 0, none⟩) 16 16) :: kv (.int .i64 ((j : Nat) : Int)) :: kv (.int .i64 ((2 * (j) : Nat) : Int)) :: kv (.int .i64 ((9 + 2 * (j) : Nat) : Int)) :: kv (.pointer (some ⟨bo + k, 0 + (9 + 2 * (j)), none⟩)) :: kv (.int .i64 (((ord k (9 + 2 * (j)) : Nat) : Int))) :: kv (.pointer (some ⟨bm, 0 + (ord k (9 + 2 * (j))), none⟩)) :: kv (.int .i64 (bwd s (ord k (9 + 2 * (j))))) :: [])
                      (.none :: .none :: .none :: .none :: .none :: .none :: .none :: .none :: .none :: .none :: .none :: .none :: .none :: .none :: .none :: .none :: .none :: .none :: .none :: .none :: .none :: .none :: .none :: .none :: .none :: .none :: .none :: .none :: .none :: .none :: .none :: .none :: [])
                      (some 128 :: some 129 :: some 130 :: some 131 :: some 132 :: some 133 :: some 134 :: some 135 :: some 136 :: some 137 :: some 138 :: some 139 :: some 140 :: some 141 :: some 142 :: some 143 :: some 144 :: some 145 :: some 146 :: some 147 :: some 148 :: some 149 :: some 150 :: some 151 :: some 152 :: some 153 :: some 154 :: some 155 :: some 156 :: some 157 :: some 158 :: some 159 :: [])
                      [(10, .slice (some ⟨bv, 0, none⟩) 16 cv), (8, .slice (some ⟨bm, 0, none⟩) 16 cm), (13, .slice (some ⟨bo + k, 0, none⟩) 16 16), (15, .int .i64 ((j : Nat) : Int))]
                      ([] :: [] :: [] :: [.slot 2] :: [.slot 3] :: [.slot 4] :: [] :: [.slot 6] :: [.slot 7] :: [.slot 8] :: [] :: [.slot 10] :: [.slot 11] :: [.slot 12] :: [] :: [] :: [] :: [.slot 16] :: [.slot 17] :: [.slot 15, .slot 18] :: [.slot 19] :: [.slot 14, .slot 20] :: [.slot 21] :: [] :: [] :: [] :: [.slot 25] :: [.slot 26] :: [.slot 24, .slot 27] :: [.slot 28] :: [.slot 23, .slot 29] :: [.slot 30] :: [])
                      [.slot 0, .slot 1, .slot 5, .slot 9, .slot 13, .slot 22, .slot 31] (128 :: 129 :: 130 :: 131 :: 132 :: 133 :: 134 :: 135 :: 136 :: 137 :: 138 :: 139 :: 140 :: 141 :: 142 :: 143 :: 144 :: 145 :: 146 :: 147 :: 148 :: 149 :: 150 :: 151 :: 152 :: 153 :: 154 :: 155 :: 156 :: 157 :: 158 :: 159 :: [])
                      (by kernel_rfl) ⟨rfl, rfl, rfl, rfl, trivial⟩ (Below.refl _ v0).drew (Nat.le_refl _) trivial trivial (below_G (Nat.le_refl _) trivial)
                      ⟨
                        -- 0
                        (fun Q aq ww own hS hBg fr kn => .inl ⟨trivial, fun K hK => wp_value (exec_move rfl fr.1) (hK _ _ ⟨Touch.refl _ _, rfl⟩)⟩),
                        -- 1
                        (fun Q aq ww own hS hBg fr kn => .inl ⟨trivial, fun K hK => wp_value (exec_move rfl fr.2.2.2.1) (hK _ _ ⟨Touch.refl _ _, rfl⟩)⟩),
                        -- 2
                        (fun Q aq ww own hS hBg fr kn => .inl ⟨trivial, fun K hK => wp_value (exec_move rfl fr.2.2.2.1) (hK _ _ ⟨Touch.refl _ _, rfl⟩)⟩),
                        -- 3
                        (fun Q aq ww own hS hBg fr kn => .inl ⟨trivial, fun K hK => wp_value (exec_addN (n := 1) rfl kn.1 rfl (by omega)) (hK _ _ ⟨Touch.refl _ _, rfl⟩)⟩),
                        -- 4
                        (fun Q aq ww own hS hBg fr kn => .inl ⟨trivial, fun K hK => wp_value (exec_remN (n := 4) rfl kn.1 rfl (by omega)) (hK _ _ ⟨Touch.refl _ _, rfl⟩)⟩),
                        -- 5
                        (fun Q aq ww own hS hBg fr kn => .inl ⟨trivial, fun K hK => wp_value (exec_addN (m := 4) rfl rfl kn.1 (by omega)) (hK _ _ ⟨Touch.refl _ _, rfl⟩)⟩),
                        -- 6
                        (fun Q aq ww own hS hBg fr kn => .inl ⟨trivial, fun K hK => wp_value (exec_move rfl fr.2.2.2.1) (hK _ _ ⟨Touch.refl _ _, rfl⟩)⟩),
                        -- 7
                        (fun Q aq ww own hS hBg fr kn => .inl ⟨trivial, fun K hK => wp_value (exec_addN (n := 2) rfl kn.1 rfl (by omega)) (hK _ _ ⟨Touch.refl _ _, rfl⟩)⟩),
                        -- 8
                        (fun Q aq ww own hS hBg fr kn => .inl ⟨trivial, fun K hK => wp_value (exec_remN (n := 4) rfl kn.1 rfl (by omega)) (hK _ _ ⟨Touch.refl _ _, rfl⟩)⟩),
                        -- 9
                        (fun Q aq ww own hS hBg fr kn => .inl ⟨trivial, fun K hK => wp_value (exec_addN (m := 8) rfl rfl kn.1 (by omega)) (hK _ _ ⟨Touch.refl _ _, rfl⟩)⟩),
                        -- 10
                        (fun Q aq ww own hS hBg fr kn => .inl ⟨trivial, fun K hK => wp_value (exec_move rfl fr.2.2.2.1) (hK _ _ ⟨Touch.refl _ _, rfl⟩)⟩),
                        -- 11
                        (fun Q aq ww own hS hBg fr kn => .inl ⟨trivial, fun K hK => wp_value (exec_addN (n := 3) rfl kn.1 rfl (by omega)) (hK _ _ ⟨Touch.refl _ _, rfl⟩)⟩),
                        -- 12
                        (fun Q aq ww own hS hBg fr kn => .inl ⟨trivial, fun K hK => wp_value (exec_remN (n := 4) rfl kn.1 rfl (by omega)) (hK _ _ ⟨Touch.refl _ _, rfl⟩)⟩),
                        -- 13
                        (fun Q aq ww own hS hBg fr kn => .inl ⟨trivial, fun K hK => wp_value (exec_addN (m := 12) rfl rfl kn.1 (by omega)) (hK _ _ ⟨Touch.refl _ _, rfl⟩)⟩),
                        -- 14
                        (fun Q aq ww own hS hBg fr kn => .inl ⟨trivial, fun K hK => wp_value (exec_move rfl fr.2.1) (hK _ _ ⟨Touch.refl _ _, rfl⟩)⟩),
                        -- 15
                        (fun Q aq ww own hS hBg fr kn => .inl ⟨trivial, fun K hK => wp_value (exec_move rfl fr.2.2.1) (hK _ _ ⟨Touch.refl _ _, rfl⟩)⟩),
                        -- 16
                        (fun Q aq ww own hS hBg fr kn => .inl ⟨trivial, fun K hK => wp_value (exec_move rfl fr.2.2.2.1) (hK _ _ ⟨Touch.refl _ _, rfl⟩)⟩),
                        -- 17
                        (fun Q aq ww own hS hBg fr kn => .inl ⟨trivial, fun K hK => wp_value (exec_mulN (m := 2) rfl rfl kn.1 (by omega)) (hK _ _ ⟨Touch.refl _ _, rfl⟩)⟩),
                        -- 18
                        (fun Q aq ww own hS hBg fr kn => .inl ⟨trivial, fun K hK => wp_value (exec_addN (m := 8) rfl rfl kn.1 (by omega)) (hK _ _ ⟨Touch.refl _ _, rfl⟩)⟩),
                        -- 19
                        (fun Q aq ww own hS hBg fr kn => .inl ⟨trivial, fun K hK => wp_value (exec_idx rfl Tryd.underlying59 size_int kn.1 kn.2.1 (by omega)) (hK _ _ ⟨Touch.refl _ _, rfl⟩)⟩),
                        -- 20
                        (fun Q aq ww own hS hBg fr kn => .inl ⟨trivial, fun K hK => wp_value (exec_ld rfl kn.1 (load_int (cell0 (HOR.out ww hS) (by omega)))) (hK _ _ ⟨Touch.refl _ _, rfl⟩)⟩),
                        -- 21
                        (fun Q aq ww own hS hBg fr kn => .inl ⟨trivial, fun K hK => wp_value (exec_idx rfl Tryd.underlying59 size_int kn.1 kn.2.1 (by omega)) (hK _ _ ⟨Touch.refl _ _, rfl⟩)⟩),
                        -- 22
                        (fun Q aq ww own hS hBg fr kn => .inl ⟨trivial, fun K hK => wp_value (exec_ld rfl kn.1 (load_int (cell0 (HM.out ww hS) (by omega)))) (hK _ _ ⟨Touch.refl _ _, rfl⟩)⟩),
                        -- 23
                        (fun Q aq ww own hS hBg fr kn => .inl ⟨trivial, fun K hK => wp_value (exec_move rfl fr.2.1) (hK _ _ ⟨Touch.refl _ _, rfl⟩)⟩),
                        -- 24
                        (fun Q aq ww own hS hBg fr kn => .inl ⟨trivial, fun K hK => wp_value (exec_move rfl fr.2.2.1) (hK _ _ ⟨Touch.refl _ _, rfl⟩)⟩),
                        -- 25
                        (fun Q aq ww own hS hBg fr kn => .inl ⟨trivial, fun K hK => wp_value (exec_move rfl fr.2.2.2.1) (hK _ _ ⟨Touch.refl _ _, rfl⟩)⟩),
                        -- 26
                        (fun Q aq ww own hS hBg fr kn => .inl ⟨trivial, fun K hK => wp_value (exec_mulN (m := 2) rfl rfl kn.1 (by omega)) (hK _ _ ⟨Touch.refl _ _, rfl⟩)⟩),
                        -- 27
                        (fun Q aq ww own hS hBg fr kn => .inl ⟨trivial, fun K hK => wp_value (exec_addN (m := 9) rfl rfl kn.1 (by omega)) (hK _ _ ⟨Touch.refl _ _, rfl⟩)⟩),
                        -- 28
                        (fun Q aq ww own hS hBg fr kn => .inl ⟨trivial, fun K hK => wp_value (exec_idx rfl Tryd.underlying59 size_int kn.1 kn.2.1 (by omega)) (hK _ _ ⟨Touch.refl _ _, rfl⟩)⟩),
                        -- 29
                        (fun Q aq ww own hS hBg fr kn => .inl ⟨trivial, fun K hK => wp_value (exec_ld rfl kn.1 (load_int (cell0 (HOR.out ww hS) (by omega)))) (hK _ _ ⟨Touch.refl _ _, rfl⟩)⟩),
                        -- 30
                        (fun Q aq ww own hS hBg fr kn => .inl ⟨trivial, fun K hK => wp_value (exec_idx rfl Tryd.underlying59 size_int kn.1 kn.2.1 (by omega)) (hK _ _ ⟨Touch.refl _ _, rfl⟩)⟩),
                        -- 31
                        (fun Q aq ww own hS hBg fr kn => .inl ⟨trivial, fun K hK => wp_value (exec_ld rfl kn.1 (load_int (cell0 (HM.out ww hS) (by omega)))) (hK _ _ ⟨Touch.refl _ _, rfl⟩)⟩),
                        trivial⟩ ?_)
                    intro vs own v6 hB6 hs6 kn inj
                    clear inj hs6
                    have e128 : vs 128 = _ := kn.1
                    have e129 : vs 129 = _ := kn.2.1
                    have e133 : vs 133 = _ := kn.2.2.1
                    have e137 : vs 137 = _ := kn.2.2.2.1
                    have e141 : vs 141 = _ := kn.2.2.2.2.1
                    have e150 : vs 150 = _ := kn.2.2.2.2.2.1
                    have e159 : vs 159 = _ := kn.2.2.2.2.2.2.1
                    clear kn HOR HM
                    replace hV := hV.below hB6 hV.lt
                    replace hT := hT.trans (touch_mono_false (touch_below hB6))
                    clear hB6
                    show wpList Tryd.prog _ _ (_ :: []) _ _
                    simp only [putAll, Act.put, List.setIfInBounds_toArray, List.set_cons_zero, List.set_cons_succ, e128, e129, e133, e137, e141, e150, e159]
                    go_wp2_with fail
                    refine (rmix_run bv 16 cv _ j (4 + (j + 1) % 4) (8 + (j + 2) % 4) (12 + (j + 3) % 4) (bwd s (ord k (8 + 2 * j))) (bwd s (ord k (9 + 2 * j))) _ hV hWV (by omega) (by omega) (by omega) (by omega) (bwd_w HSB.out (by omega)) (bwd_w HSB.out (by omega))).mono ?_
                    rintro e v7 ⟨rfl, hV7, hW7, hT7⟩
                    replace hT := hT.trans hT7
                    clear hT7 hV hWV
                    go_wp2_with fail
                    go_roundg (4 - (j + 1))
                    case rel => exact ⟨j + 1, Hid.mk (by omega), by go_num, hV7, Hid.mk hW7, hT⟩
                    case measure => have := HJ.out; omega
                  · have hj2 : j = 4 := by omega
                    subst hj2
                    clear hj hj4 HJ
                    rw [HN.out] at hV HW
                    go_wp2_with fail
                    go_roundg (10 - (k + 1))
                    case rel => exact ⟨k + 1, Hid.mk (by omega), by go_num, hV, HW, hT⟩
                    case measure => have := HK.out; omega
          · have hk2 : k = 10 := by omega
            subst hk2
            have HTF : Hid (∀ q, takeF h s t false q = xorw (xorw (h q) (tenB (bwd s) (begV h t false) 10 q)) (tenB (bwd s) (begV h t false) 10 (q + 8))) := Hid.mk (fun _ => rfl)
            generalize tenB (bwd s) (begV h t false) 10 = vt at *
            have hHr := hH5.touch hT (by omega)
            have hTw : Touch (fun x => x = bh) w wr := touch_mono_false ⟨hT.os.trans hB5.os, hT.tape.trans hB5.tape, hT.output.trans hB5.output, Nat.le_trans hB5.size hT.size, fun q hq _ => (hT.block q (Nat.lt_of_lt_of_le hq hB5.size) (by omega)).trans (hB5.block q hq)⟩
            clear hT hk hk10 HK
            go_wp2_with fail
            rw [show ((10 : Nat) : Int) = 10 from rfl]
            generalize wr = wo3 at *
            go_loopg [16] 8 (fun gm iv v => ∃ j : Nat, Hid (gm + j = 8) ∧ iv = .int .i64 (j : Int) ∧ RowAt v bh .i64 3 8 (fun q => if q < j then takeF h s t false q else h q) ∧ RowAt v bv .i64 3 16 vt ∧ Touch (fun x => x = bh) w v)
            case atStart => exact ⟨0, Hid.mk rfl, rfl, hHr.mono (Nat.le_refl _) (fun q _ => by rw [if_neg (by omega)]), hV, hTw⟩
            case round =>
              clear hHr hV hTw
              obtain ⟨j, HJ, rfl, hHj, hV, hT⟩ := hrel
              have hj8 : j ≤ 8 := by have := HJ.out; omega
              by_cases hj : j < 8
              · have HW1 : Hid (W32 (if j < j then takeF h s t false j else h j)) := Hid.mk (by rw [if_neg (by omega)]; exact hh j hj)
                have HNX : Hid (∀ q, q < 8 → upd (fun q => if q < j then takeF h s t false q else h q) j (xorw (xorw (if j < j then takeF h s t false j else h j) (vt j)) (vt (j + 8))) q = (fun q => if q < j + 1 then takeF h s t false q else h q) q) := Hid.mk (fun q _ => by
                  unfold upd
                  by_cases e : q = j
                  · subst e
                    show (if q = q then _ else _) = (if q < q + 1 then takeF h s t false q else h q)
                    rw [if_pos rfl, if_neg (by omega), if_pos (by omega), HTF.out]
                  · show (if q = j then _ else _) = (if q < j + 1 then takeF h s t false q else h q)
                    rw [if_neg e]
                    show (if q < j then takeF h s t false q else h q) = _
                    by_cases h2 : q < j
                    · rw [if_pos h2, if_pos (by omega)]
                    · rw [if_neg h2, if_neg (by omega)])
                have HWT := HW
                generalize hhc : (fun q => if q < j then takeF h s t false q else h q) = hc at *
                replace HW1 : Hid (W32 (hc j)) := by rw [← hhc]; exact HW1
                replace HNX : Hid (∀ q, q < 8 → upd hc j (xorw (xorw (hc j) (vt j)) (vt (j + 8))) q = (fun q => if q < j + 1 then takeF h s t false q else h q) q) := by rw [← hhc]; rw [← hhc] at HNX; exact HNX
                clear hhc
                go_wp2_with fail
                refine wp_gen (fun v => RowAt v bh .i64 3 8 hc ∧ RowAt v bv .i64 3 16 vt ∧ Touch (fun x => x = bh) w v) ⟨hHj, hV, hT⟩ ?_
                clear hHj hV hT
                rintro v0 ⟨hHj, hV, hT⟩
                have HH : Hid (∀ u, Below v0.heap.size v0 u → RowAt u bh .i64 3 8 hc) := Hid.mk (fun u hu => hHj.below hu hHj.lt)
                have HV : Hid (∀ u, Below v0.heap.size v0 u → RowAt u bv .i64 3 16 vt) := Hid.mk (fun u hu => hV.below hu hV.lt)
                refine wp_region_cut 18 rfl (by kernel_rfl) (any_region3 (Below v0.heap.size v0) v0.heap.size
                  ([] : List (Nat × Cont))
                  [kv (.slice (some ⟨bh, 0, none⟩) 8 ch), kv (.int .i64 ((j : Nat) : Int)), kv (.slice (some ⟨bh, 0, none⟩) 8 ch), kv (.int .i64 ((j : Nat) : Int)), kv (.pointer (some ⟨bh, 0 + (j), none⟩)), kv (.int .i64 (hc j)), kv (.slice (some ⟨bv, 0, none⟩) 16 cv), kv (.int .i64 ((j : Nat) : Int)), kv (.pointer (some ⟨bv, 0 + (j), none⟩)), kv (.int .i64 (vt j)), kv (.int .i64 (xorw (hc j) (vt j))), kv (.slice (some ⟨bv, 0, none⟩) 16 cv), kv (.int .i64 ((j : Nat) : Int)), kv (.int .i64 ((j + 8 : Nat) : Int)), kv (.pointer (some ⟨bv, 0 + (j + 8), none⟩)), kv (.int .i64 (vt (j + 8))), kv (.int .i64 (xorw (xorw (hc j) (vt j)) (vt (j + 8)))), kv (.pointer (some ⟨bh, 0 + (j), none⟩))]
                  [.none, .none, .none, .none, .none, .none, .none, .none, .none, .none, .none, .none, .none, .none, .none, .none, .none, .none]
                  [some 165, some 166, some 167, some 168, some 169, some 170, some 171, some 172, some 173, some 174, some 175, some 176, some 177, some 178, some 179, some 180, some 181, some 182]
                  [(0, .slice (some ⟨bh, 0, none⟩) 8 ch), (16, .int .i64 ((j : Nat) : Int)), (10, .slice (some ⟨bv, 0, none⟩) 16 cv)]
                  [[], [], [], [], [.slot 2, .slot 3], [.slot 4], [], [], [.slot 6, .slot 7], [.slot 8], [.slot 5, .slot 9], [], [], [.slot 12], [.slot 11, .slot 13], [.slot 14], [.slot 10, .slot 15], [.slot 0, .slot 1]]
                  [.slot 16, .slot 17] [165, 166, 167, 168, 169, 170, 171, 172, 173, 174, 175, 176, 177, 178, 179, 180, 181, 182]
                  (by kernel_rfl) ⟨rfl, rfl, rfl, trivial⟩ (Below.refl _ v0).drew (Nat.le_refl _) trivial trivial (below_G (Nat.le_refl _) trivial)
                  ⟨
                    -- 0
                    (fun Q aq ww own hS hBg fr kn => .inl ⟨trivial, fun K hK => wp_value (exec_move rfl fr.1) (hK _ _ ⟨Touch.refl _ _, rfl⟩)⟩),
                    -- 1
                    (fun Q aq ww own hS hBg fr kn => .inl ⟨trivial, fun K hK => wp_value (exec_move rfl fr.2.1) (hK _ _ ⟨Touch.refl _ _, rfl⟩)⟩),
                    -- 2
                    (fun Q aq ww own hS hBg fr kn => .inl ⟨trivial, fun K hK => wp_value (exec_move rfl fr.1) (hK _ _ ⟨Touch.refl _ _, rfl⟩)⟩),
                    -- 3
                    (fun Q aq ww own hS hBg fr kn => .inl ⟨trivial, fun K hK => wp_value (exec_move rfl fr.2.1) (hK _ _ ⟨Touch.refl _ _, rfl⟩)⟩),
                    -- 4
                    (fun Q aq ww own hS hBg fr kn => .inl ⟨trivial, fun K hK => wp_value (exec_idx rfl Tryd.underlying59 size_int kn.1 kn.2.1 (by omega)) (hK _ _ ⟨Touch.refl _ _, rfl⟩)⟩),
                    -- 5
                    (fun Q aq ww own hS hBg fr kn => .inl ⟨trivial, fun K hK => wp_value (exec_ld rfl kn.1 (load_int (cell0 (HH.out ww hS) (by omega)))) (hK _ _ ⟨Touch.refl _ _, rfl⟩)⟩),
                    -- 6
                    (fun Q aq ww own hS hBg fr kn => .inl ⟨trivial, fun K hK => wp_value (exec_move rfl fr.2.2.1) (hK _ _ ⟨Touch.refl _ _, rfl⟩)⟩),
                    -- 7
                    (fun Q aq ww own hS hBg fr kn => .inl ⟨trivial, fun K hK => wp_value (exec_move rfl fr.2.1) (hK _ _ ⟨Touch.refl _ _, rfl⟩)⟩),
                    -- 8
                    (fun Q aq ww own hS hBg fr kn => .inl ⟨trivial, fun K hK => wp_value (exec_idx rfl Tryd.underlying59 size_int kn.1 kn.2.1 (by omega)) (hK _ _ ⟨Touch.refl _ _, rfl⟩)⟩),
                    -- 9
                    (fun Q aq ww own hS hBg fr kn => .inl ⟨trivial, fun K hK => wp_value (exec_ld rfl kn.1 (load_int (cell0 (HV.out ww hS) (by omega)))) (hK _ _ ⟨Touch.refl _ _, rfl⟩)⟩),
                    -- 10
                    (fun Q aq ww own hS hBg fr kn => .inl ⟨trivial, fun K hK => wp_value (exec_xor rfl kn.1 kn.2.1 HW1.out (HWT.out j (by omega))) (hK _ _ ⟨Touch.refl _ _, rfl⟩)⟩),
                    -- 11
                    (fun Q aq ww own hS hBg fr kn => .inl ⟨trivial, fun K hK => wp_value (exec_move rfl fr.2.2.1) (hK _ _ ⟨Touch.refl _ _, rfl⟩)⟩),
                    -- 12
                    (fun Q aq ww own hS hBg fr kn => .inl ⟨trivial, fun K hK => wp_value (exec_move rfl fr.2.1) (hK _ _ ⟨Touch.refl _ _, rfl⟩)⟩),
                    -- 13
                    (fun Q aq ww own hS hBg fr kn => .inl ⟨trivial, fun K hK => wp_value (exec_addN (n := 8) rfl kn.1 rfl (by omega)) (hK _ _ ⟨Touch.refl _ _, rfl⟩)⟩),
                    -- 14
                    (fun Q aq ww own hS hBg fr kn => .inl ⟨trivial, fun K hK => wp_value (exec_idx rfl Tryd.underlying59 size_int kn.1 kn.2.1 (by omega)) (hK _ _ ⟨Touch.refl _ _, rfl⟩)⟩),
                    -- 15
                    (fun Q aq ww own hS hBg fr kn => .inl ⟨trivial, fun K hK => wp_value (exec_ld rfl kn.1 (load_int (cell0 (HV.out ww hS) (by omega)))) (hK _ _ ⟨Touch.refl _ _, rfl⟩)⟩),
                    -- 16
                    (fun Q aq ww own hS hBg fr kn => .inl ⟨trivial, fun K hK => wp_value (exec_xor rfl kn.1 kn.2.1 (xorw_w HW1.out (HWT.out j (by omega))) (HWT.out (j + 8) (by omega))) (hK _ _ ⟨Touch.refl _ _, rfl⟩)⟩),
                    -- 17
                    (fun Q aq ww own hS hBg fr kn => .inl ⟨trivial, fun K hK => wp_value (exec_idx rfl Tryd.underlying59 size_int kn.1 kn.2.1 (by omega)) (hK _ _ ⟨Touch.refl _ _, rfl⟩)⟩),
                    trivial⟩ ?_)
                intro vs own v6 hB6 hs6 kn inj
                clear inj hs6
                have e181 : vs 181 = _ := kn.1
                have e182 : vs 182 = _ := kn.2.1
                rw [Nat.zero_add] at e182
                clear kn
                have hH6 := HH.out _ hB6
                have hV6 := HV.out _ hB6
                replace hT := hT.trans (touch_mono_false (touch_below hB6))
                clear hB6 HH HV hHj hV
                have c0 := hH6.cell j hj
                have f0 := hH6.free j hj
                have hHn := Hid.mk ((hH6.set j (xorw (xorw (hc j) (vt j)) (vt (j + 8)))).mono (Nat.le_refl _) HNX.out)
                have hVn := Hid.mk (hV6.only (only_set (w := v6) (g := bh) (i := j) (v := .int .i64 (xorw (xorw (hc j) (vt j)) (vt (j + 8))))) (by omega))
                have hTn := Hid.mk (hT.trans (touch_only (only_set (w := v6) (g := bh) (i := j) (v := .int .i64 (xorw (xorw (hc j) (vt j)) (vt (j + 8)))))))
                generalize xorw (xorw (hc j) (vt j)) (vt (j + 8)) = yy at *
                show wpList Tryd.prog _ _ (_ :: []) _ _
                simp only [putAll, Act.put, List.setIfInBounds_toArray, List.set_cons_zero, List.set_cons_succ, e181, e182]
                go_wp2_with fail
                go_roundg (8 - (j + 1))
                case rel => exact ⟨j + 1, Hid.mk (by omega), by go_num, hHn.out, hVn.out, hTn.out⟩
                case measure => have := HJ.out; omega
              · have hj2 : j = 8 := by omega
                subst hj2
                replace hHj := hHj.mono (Nat.le_refl _) (s' := takeF h s t false) (fun q hq => by rw [if_pos hq])
                go_wp2_with fail
                go_end0
                exact ⟨rfl, hHj, fun q hq => by rw [HTF.out]; exact xorw_w (xorw_w (hh q hq) (HW.out q (by omega))) (HW.out (q + 8) (by omega)), hT⟩
      | true =>
        have HR : Hid (∀ j, j < 8 → (wr.alloc (.cells #[] 3)).cell? ⟨bh, 0 + j, none⟩ = some (.int .i64 (h j))) := Hid.mk (fun j hj => by rw [Nat.zero_add]; exact ((hH.below hB hH.lt).alloc _).cell j hj)
        go_wp2_with (at_builtin; refine ap_full rfl _ _ 59 3 .i64 8 Tryd.underlying59 infoInt (by decide) (by rfl) (n := 0) (m := 8) (f := h) (by rfl) (fun j hj => by omega) (by rfl) (r := h) HR.out (by decide) (by decide) ?_; intro va v1 h1 hb1; refine Hid.out ?_)
        clear HR
        rw [nums_congr (cat_zero8 h h)] at h1
        have hz1 : wr.heap.size + 1 ≤ v1.heap.size := by have := hb1.size; simpa using this
        replace h1 : v1.ownsRow (wr.heap.size + 1) 3 1 va 8 (nums .i64 8 h) := by simpa using h1
        have hb1' : Below wr.heap.size wr v1 := ((Below.refl _ wr).alloc (Nat.le_refl _) _).trans (hb1.mono (by simp))
        clear hb1
        refine Hid.mk ?_
        go_wp2_with fail
        refine (begin_run _).mono ?_
        rintro e v2 ⟨rfl, gB, hb2⟩
        replace h1 := own_kept h1 hb2
        have HZ2 : Hid (wr.heap.size + 1 ≤ v2.heap.size) := Hid.mk (by have := hb2.size; omega)
        have hb2' : Below wr.heap.size wr v2 := hb1'.trans (hb2.mono (by omega))
        clear hb2 hb1'
        go_wp2_with (at_builtin; refine ap_own rfl _ _ 59 3 .i64 8 Tryd.underlying59 infoInt (by decide) (by rfl) (n := 8) (m := 8) (by rfl) h1 (by rfl) (r := bgn) (fun j hj => by rw [Nat.zero_add]; exact gB.cell j hj) (by decide) HZ2.out ?_; intro vb v3 h3 hb3; refine Hid.out ?_)
        have hb3' : Below wr.heap.size wr v3 := hb2'.trans (hb3.mono (by omega))
        clear hb3 hb2' gB h1 HZ2
        obtain ⟨bv, cv, rfl, hbv, hcv, hV⟩ := own_row h3 (by decide)
        clear h3
        have W0 : ∀ i, i < 16 → W32 (cat 8 h bgn i) := fun i hi => by
          unfold cat
          split
          · exact hh i (by omega)
          · exact bgn_w _
        have HQ0 : Hid (∀ q, q < 16 → cat 8 h bgn q = if q < 8 then h q else bgn (q - 8)) := Hid.mk (fun q _ => rfl)
        replace hV : RowAt v3 bv .i64 3 16 (cat 8 h bgn) := hV
        generalize cat 8 h bgn = V0 at *
        have hbv' : wr.heap.size < bv := by omega
        clear hbv
        have hMv := hM.below hb3' hM.lt
        have hHv := (hH.below hB hH.lt).below hb3' (Nat.lt_of_lt_of_le hH.lt hB.size)
        have hB3 := hB.trans (hb3'.mono hB.size)
        have hzz : bm < wr.heap.size := hM.lt
        have hzh : bh < w.heap.size := hH.lt
        have hzw := hB.size
        clear hM hb3' hB
        have e1 : t.tmod 4294967296 = t % 4294967296 := Int.tmod_eq_emod_of_nonneg ht.1
        have e2 : t.tdiv 4294967296 = t / 4294967296 := Int.tdiv_eq_ediv_of_nonneg ht.1
        have T1 : W32 (t % 4294967296) := by unfold W32; omega
        have T2 : W32 (t / 4294967296) := by unfold W32; omega
        have c12 := hV.cell 12 (by omega)
        have f12 := hV.free 12 (by omega)
        have x12 : bits .xor .i64 (V0 12) (t % 4294967296) = xorw (V0 12) (t % 4294967296) := i64_xor (W0 12 (by omega)) T1
        have hV1 := hV.set 12 (xorw (V0 12) (t % 4294967296))
        have o12 : Only bv v3 _ := only_set (w := v3) (g := bv) (i := 12) (v := .int .i64 (xorw (V0 12) (t % 4294967296)))
        have W1 : ∀ i, i < 16 → W32 (upd V0 12 (xorw (V0 12) (t % 4294967296)) i) := w32_upd W0 (xorw_w (W0 12 (by omega)) T1)
        obtain ⟨V1, hV1e⟩ : ∃ V1, V1 = upd V0 12 (xorw (V0 12) (t % 4294967296)) := ⟨_, rfl⟩
        rw [← hV1e] at hV1 W1
        have c13 := hV1.cell 13 (by omega)
        have f13 := hV1.free 13 (by omega)
        have x13 : bits .xor .i64 (V1 13) (t / 4294967296) = xorw (V1 13) (t / 4294967296) := i64_xor (W1 13 (by omega)) T2
        have hV2 := hV1.set 13 (xorw (V1 13) (t / 4294967296))
        have o13 : Only bv _ _ := only_set (w := (v3.setCell ⟨bv, 12, none⟩ (.int .i64 (xorw (V0 12) (t % 4294967296))))) (g := bv) (i := 13) (v := .int .i64 (xorw (V1 13) (t / 4294967296)))
        have W2 : ∀ i, i < 16 → W32 (upd V1 13 (xorw (V1 13) (t / 4294967296)) i) := w32_upd W1 (xorw_w (W1 13 (by omega)) T2)
        obtain ⟨V2, hV2e⟩ : ∃ V2, V2 = upd V1 13 (xorw (V1 13) (t / 4294967296)) := ⟨_, rfl⟩
        rw [← hV2e] at hV2 W2
        have TT := (touch_only o12).trans (touch_only o13)
        have HV1e := Hid.mk hV1e
        have HV2e := Hid.mk hV2e
        clear hV1e hV2e o12 o13 hV hV1
        have HB2 := Hid.mk (begV_false h V0 t HQ0.out)
        replace hV2 := hV2.mono (Nat.le_refl _) (s' := begV h t false) (fun i hi => by rw [HV2e.out, HV1e.out]; exact HB2.out i hi)
        replace W2 : ∀ i, i < 16 → W32 (begV h t false i) := fun i hi => by rw [← HB2.out i hi, ← HV1e.out, ← HV2e.out]; exact W2 i hi
        clear HV2e HB2
        have c14 := hV2.cell 14 (by omega)
        have f14 := hV2.free 14 (by omega)
        have x14 : bits .xor .i64 (begV h t false 14) 4294967295 = xorw (begV h t false 14) 4294967295 := i64_xor (W2 14 (by omega)) (by unfold W32; omega)
        have hV3 := (hV2.set 14 (xorw (begV h t false 14) 4294967295)).mono (Nat.le_refl _) (s' := begV h t true) (begV_true h _ t (fun _ _ => rfl))
        have W3 : ∀ i, i < 16 → W32 (begV h t true i) := fun i hi => by
          rw [← begV_true h _ t (fun _ _ => rfl) i hi]
          exact w32_upd W2 (xorw_w (W2 14 (by omega)) (by unfold W32; omega)) i hi
        have o14 : Only bv _ _ := only_set (w := ((v3.setCell ⟨bv, 12, none⟩ (.int .i64 (xorw (V0 12) (t % 4294967296)))).setCell ⟨bv, 13, none⟩ (.int .i64 (xorw (V1 13) (t / 4294967296))))) (g := bv) (i := 14) (v := .int .i64 (xorw (begV h t false 14) 4294967295))
        replace TT := TT.trans (touch_only o14)
        clear o14
        refine Hid.mk ?_
        go_wp2_with fail
        refine (orders_run' _).mono ?_
        rintro e v5 ⟨bo, rfl, hbo, hord, hb5⟩
        replace hbo : v3.heap.size ≤ bo := by simpa using hbo
        have hV5 : RowAt v5 bv .i64 3 16 (begV h t true) := hV3.below hb5 hV3.lt
        have hM5 : RowAt v5 bm .i64 3 16 (bwd s) := (hMv.touch TT (by omega)).below hb5 (hMv.touch TT (by omega)).lt
        have hH5 : RowAt v5 bh .i64 3 8 h := (hHv.touch TT (by omega)).below hb5 (hHv.touch TT (by omega)).lt
        have hlv : bv < bo := by have := hV3.lt; simp at this; omega
        have hB5 : Below w.heap.size w v5 := (hB3.trans (below_touch TT (by omega) hB3.size)).trans (hb5.mono (by simp; exact hB3.size))
        clear hV2 hMv hHv hB3 hb5 TT c12 c13 f12 f13 x12 x13 e1 e2 T1 T2 W0 W1 HQ0 HV1e c14 f14 x14 hV3
        have WV0 : Hid (∀ i, i < 16 → W32 (begV h t true i)) := Hid.mk W3
        clear W2 W3
        go_wp2_with fail
        generalize wr = wo at *
        go_loopg [12] 10 (fun gm iv v => ∃ k : Nat, Hid (gm + k = 10) ∧ iv = .int .i64 (k : Int) ∧ RowAt v bv .i64 3 16 (tenB (bwd s) (begV h t true) k) ∧ Hid (∀ i, i < 16 → W32 (tenB (bwd s) (begV h t true) k i)) ∧ Touch (fun x => x = bv) v5 v)
        case atStart => exact ⟨0, Hid.mk rfl, rfl, hV5, WV0, Touch.refl _ _⟩
        case round =>
          obtain ⟨k, HK, rfl, hV, HW, hT⟩ := hrel
          have hk10 : k ≤ 10 := by have := HK.out; omega
          by_cases hk : k < 10
          · have hcell : wr.cell? ⟨bo + 10, k, none⟩ = some (.slice (some ⟨bo + k, 0, none⟩) 16 16) := by
              rw [← (hord k hk).1]
              exact World.cell?_of_block (hT.block (bo + 10) (World.block_lt_of_cell? _ _ (hord k hk).1) (by omega))
            have hord5 : RowAt v5 (bo + k) .i64 3 16 (ordI k) := (hord k hk).2.row
            have HN : Hid (diaB (bwd s) k (colB (bwd s) k (tenB (bwd s) (begV h t true) k) 4) 4 = tenB (bwd s) (begV h t true) (k + 1)) := Hid.mk rfl
            generalize tenB (bwd s) (begV h t true) k = X at *
            have hd : decide ((k : Int) < 10) = true := by simp; omega
            go_wp2_with fail
            generalize wr = wo1 at *
            clear hcell
            go_loopg [14] 4 (fun gm iv v => ∃ j : Nat, Hid (gm + j = 4) ∧ iv = .int .i64 (j : Int) ∧ RowAt v bv .i64 3 16 (colB (bwd s) k X j) ∧ Hid (∀ i, i < 16 → W32 (colB (bwd s) k X j i)) ∧ Touch (fun x => x = bv) v5 v)
            case atStart => exact ⟨0, Hid.mk rfl, rfl, hV, HW, hT⟩
            case round =>
              clear hV HW hT
              obtain ⟨j, HJ, rfl, hV, HW, hT⟩ := hrel
              have hj4 : j ≤ 4 := by have := HJ.out; omega
              by_cases hj : j < 4
              · have hWV := HW.out
                clear HW
                have o1 := ord_lt k hk (2 * j) (by omega)
                have o2 := ord_lt k hk (2 * j + 1) (by omega)
                go_wp2_with fail
                refine wp_gen (fun v => RowAt v bv .i64 3 16 (colB (bwd s) k X j) ∧ Touch (fun x => x = bv) v5 v) ⟨hV, hT⟩ ?_
                clear hV hT
                rintro v0 ⟨hV, hT⟩
                have HOR : Hid (∀ u, Below v0.heap.size v0 u → RowAt u (bo + k) .i64 3 16 (ordI k)) := Hid.mk (fun u hu => (hord5.touch hT (by omega)).below hu (hord5.touch hT (by omega)).lt)
                have HM : Hid (∀ u, Below v0.heap.size v0 u → RowAt u bm .i64 3 16 (bwd s)) := Hid.mk (fun u hu => (hM5.touch hT (by omega)).below hu (hM5.touch hT (by omega)).lt)
                refine wp_region_cut 25 rfl (by kernel_rfl) (any_region3 (Below v0.heap.size v0) v0.heap.size
                  ([] : List (Nat × Cont))
                  [kv (.slice (some ⟨bv, 0, none⟩) 16 cv), kv (.int .i64 ((j : Nat) : Int)), kv (.int .i64 ((j : Nat) : Int)), kv (.int .i64 ((4 + j : Nat) : Int)), kv (.int .i64 ((j : Nat) : Int)), kv (.int .i64 ((8 + j : Nat) : Int)), kv (.int .i64 ((j : Nat) : Int)), kv (.int .i64 ((12 + j : Nat) : Int)), kv (.slice (some ⟨bm, 0, none⟩) 16 cm), kv (.slice (some ⟨bo + k, 0, none⟩) 16 16), kv (.int .i64 ((j : Nat) : Int)), kv (.int .i64 ((2 * (j) : Nat) : Int)), kv (.pointer (some ⟨bo + k, 0 + (2 * (j)), none⟩)), kv (.int .i64 (((ord k (2 * (j)) : Nat) : Int))), kv (.pointer (some ⟨bm, 0 + (ord k (2 * (j))), none⟩)), kv (.int .i64 (bwd s (ord k (2 * (j))))), kv (.slice (some ⟨bm, 0, none⟩) 16 cm), kv (.slice (some ⟨bo + k, 0, none⟩) 16 16), kv (.int .i64 ((j : Nat) : Int)), kv (.int .i64 ((2 * (j) : Nat) : Int)), kv (.int .i64 ((2 * (j) + 1 : Nat) : Int)), kv (.pointer (some ⟨bo + k, 0 + (2 * (j) + 1), none⟩)), kv (.int .i64 (((ord k (2 * (j) + 1) : Nat) : Int))), kv (.pointer (some ⟨bm, 0 + (ord k (2 * (j) + 1)), none⟩)), kv (.int .i64 (bwd s (ord k (2 * (j) + 1))))]
                  [.none, .none, .none, .none, .none, .none, .none, .none, .none, .none, .none, .none, .none, .none, .none, .none, .none, .none, .none, .none, .none, .none, .none, .none, .none]
                  [some 98, some 99, some 100, some 101, some 102, some 103, some 104, some 105, some 106, some 107, some 108, some 109, some 110, some 111, some 112, some 113, some 114, some 115, some 116, some 117, some 118, some 119, some 120, some 121, some 122]
                  [(10, .slice (some ⟨bv, 0, none⟩) 16 cv), (8, .slice (some ⟨bm, 0, none⟩) 16 cm), (13, .slice (some ⟨bo + k, 0, none⟩) 16 16), (14, .int .i64 ((j : Nat) : Int))]
                  [[], [], [], [.slot 2], [], [.slot 4], [], [.slot 6], [], [], [], [.slot 10], [.slot 9, .slot 11], [.slot 12], [.slot 8, .slot 13], [.slot 14], [], [], [], [.slot 18], [.slot 19], [.slot 17, .slot 20], [.slot 21], [.slot 16, .slot 22], [.slot 23]]
                  [.slot 0, .slot 1, .slot 3, .slot 5, .slot 7, .slot 15, .slot 24] [98, 99, 100, 101, 102, 103, 104, 105, 106, 107, 108, 109, 110, 111, 112, 113, 114, 115, 116, 117, 118, 119, 120, 121, 122]
                  (by kernel_rfl) ⟨rfl, rfl, rfl, rfl, trivial⟩ (Below.refl _ v0).drew (Nat.le_refl _) trivial trivial (below_G (Nat.le_refl _) trivial)
                  ⟨
                    -- 0
                    (fun Q aq ww own hS hBg fr kn => .inl ⟨trivial, fun K hK => wp_value (exec_move rfl fr.1) (hK _ _ ⟨Touch.refl _ _, rfl⟩)⟩),
                    -- 1
                    (fun Q aq ww own hS hBg fr kn => .inl ⟨trivial, fun K hK => wp_value (exec_move rfl fr.2.2.2.1) (hK _ _ ⟨Touch.refl _ _, rfl⟩)⟩),
                    -- 2
                    (fun Q aq ww own hS hBg fr kn => .inl ⟨trivial, fun K hK => wp_value (exec_move rfl fr.2.2.2.1) (hK _ _ ⟨Touch.refl _ _, rfl⟩)⟩),
                    -- 3
                    (fun Q aq ww own hS hBg fr kn => .inl ⟨trivial, fun K hK => wp_value (exec_addN (m := 4) rfl rfl kn.1 (by omega)) (hK _ _ ⟨Touch.refl _ _, rfl⟩)⟩),
                    -- 4
                    (fun Q aq ww own hS hBg fr kn => .inl ⟨trivial, fun K hK => wp_value (exec_move rfl fr.2.2.2.1) (hK _ _ ⟨Touch.refl _ _, rfl⟩)⟩),
                    -- 5
                    (fun Q aq ww own hS hBg fr kn => .inl ⟨trivial, fun K hK => wp_value (exec_addN (m := 8) rfl rfl kn.1 (by omega)) (hK _ _ ⟨Touch.refl _ _, rfl⟩)⟩),
                    -- 6
                    (fun Q aq ww own hS hBg fr kn => .inl ⟨trivial, fun K hK => wp_value (exec_move rfl fr.2.2.2.1) (hK _ _ ⟨Touch.refl _ _, rfl⟩)⟩),
                    -- 7
                    (fun Q aq ww own hS hBg fr kn => .inl ⟨trivial, fun K hK => wp_value (exec_addN (m := 12) rfl rfl kn.1 (by omega)) (hK _ _ ⟨Touch.refl _ _, rfl⟩)⟩),
                    -- 8
                    (fun Q aq ww own hS hBg fr kn => .inl ⟨trivial, fun K hK => wp_value (exec_move rfl fr.2.1) (hK _ _ ⟨Touch.refl _ _, rfl⟩)⟩),
                    -- 9
                    (fun Q aq ww own hS hBg fr kn => .inl ⟨trivial, fun K hK => wp_value (exec_move rfl fr.2.2.1) (hK _ _ ⟨Touch.refl _ _, rfl⟩)⟩),
                    -- 10
                    (fun Q aq ww own hS hBg fr kn => .inl ⟨trivial, fun K hK => wp_value (exec_move rfl fr.2.2.2.1) (hK _ _ ⟨Touch.refl _ _, rfl⟩)⟩),
                    -- 11
                    (fun Q aq ww own hS hBg fr kn => .inl ⟨trivial, fun K hK => wp_value (exec_mulN (m := 2) rfl rfl kn.1 (by omega)) (hK _ _ ⟨Touch.refl _ _, rfl⟩)⟩),
                    -- 12
                    (fun Q aq ww own hS hBg fr kn => .inl ⟨trivial, fun K hK => wp_value (exec_idx rfl Tryd.underlying59 size_int kn.1 kn.2.1 (by omega)) (hK _ _ ⟨Touch.refl _ _, rfl⟩)⟩),
                    -- 13
                    (fun Q aq ww own hS hBg fr kn => .inl ⟨trivial, fun K hK => wp_value (exec_ld rfl kn.1 (load_int (cell0 (HOR.out ww hS) (by omega)))) (hK _ _ ⟨Touch.refl _ _, rfl⟩)⟩),
                    -- 14
                    (fun Q aq ww own hS hBg fr kn => .inl ⟨trivial, fun K hK => wp_value (exec_idx rfl Tryd.underlying59 size_int kn.1 kn.2.1 (by omega)) (hK _ _ ⟨Touch.refl _ _, rfl⟩)⟩),
                    -- 15
                    (fun Q aq ww own hS hBg fr kn => .inl ⟨trivial, fun K hK => wp_value (exec_ld rfl kn.1 (load_int (cell0 (HM.out ww hS) (by omega)))) (hK _ _ ⟨Touch.refl _ _, rfl⟩)⟩),
                    -- 16
                    (fun Q aq ww own hS hBg fr kn => .inl ⟨trivial, fun K hK => wp_value (exec_move rfl fr.2.1) (hK _ _ ⟨Touch.refl _ _, rfl⟩)⟩),
                    -- 17
                    (fun Q aq ww own hS hBg fr kn => .inl ⟨trivial, fun K hK => wp_value (exec_move rfl fr.2.2.1) (hK _ _ ⟨Touch.refl _ _, rfl⟩)⟩),
                    -- 18
                    (fun Q aq ww own hS hBg fr kn => .inl ⟨trivial, fun K hK => wp_value (exec_move rfl fr.2.2.2.1) (hK _ _ ⟨Touch.refl _ _, rfl⟩)⟩),
                    -- 19
                    (fun Q aq ww own hS hBg fr kn => .inl ⟨trivial, fun K hK => wp_value (exec_mulN (m := 2) rfl rfl kn.1 (by omega)) (hK _ _ ⟨Touch.refl _ _, rfl⟩)⟩),
                    -- 20
                    (fun Q aq ww own hS hBg fr kn => .inl ⟨trivial, fun K hK => wp_value (exec_addN (n := 1) rfl kn.1 rfl (by omega)) (hK _ _ ⟨Touch.refl _ _, rfl⟩)⟩),
                    -- 21
                    (fun Q aq ww own hS hBg fr kn => .inl ⟨trivial, fun K hK => wp_value (exec_idx rfl Tryd.underlying59 size_int kn.1 kn.2.1 (by omega)) (hK _ _ ⟨Touch.refl _ _, rfl⟩)⟩),
                    -- 22
                    (fun Q aq ww own hS hBg fr kn => .inl ⟨trivial, fun K hK => wp_value (exec_ld rfl kn.1 (load_int (cell0 (HOR.out ww hS) (by omega)))) (hK _ _ ⟨Touch.refl _ _, rfl⟩)⟩),
                    -- 23
                    (fun Q aq ww own hS hBg fr kn => .inl ⟨trivial, fun K hK => wp_value (exec_idx rfl Tryd.underlying59 size_int kn.1 kn.2.1 (by omega)) (hK _ _ ⟨Touch.refl _ _, rfl⟩)⟩),
                    -- 24
                    (fun Q aq ww own hS hBg fr kn => .inl ⟨trivial, fun K hK => wp_value (exec_ld rfl kn.1 (load_int (cell0 (HM.out ww hS) (by omega)))) (hK _ _ ⟨Touch.refl _ _, rfl⟩)⟩),
                    trivial⟩ ?_)
                intro vs own v6 hB6 hs6 kn inj
                clear inj hs6
                have e98 : vs 98 = _ := kn.1
                have e99 : vs 99 = _ := kn.2.1
                have e101 : vs 101 = _ := kn.2.2.1
                have e103 : vs 103 = _ := kn.2.2.2.1
                have e105 : vs 105 = _ := kn.2.2.2.2.1
                have e113 : vs 113 = _ := kn.2.2.2.2.2.1
                have e122 : vs 122 = _ := kn.2.2.2.2.2.2.1
                clear kn HOR HM
                replace hV := hV.below hB6 hV.lt
                replace hT := hT.trans (touch_mono_false (touch_below hB6))
                clear hB6
                show wpList Tryd.prog _ _ (_ :: []) _ _
                simp only [putAll, Act.put, List.setIfInBounds_toArray, List.set_cons_zero, List.set_cons_succ, e98, e99, e101, e103, e105, e113, e122]
                go_wp2_with fail
                refine (rmix_run bv 16 cv _ j (4 + j) (8 + j) (12 + j) (bwd s (ord k (2 * j))) (bwd s (ord k (2 * j + 1))) _ hV hWV (by omega) (by omega) (by omega) (by omega) (bwd_w HSB.out (by omega)) (bwd_w HSB.out (by omega))).mono ?_
                rintro e v7 ⟨rfl, hV7, hW7, hT7⟩
                replace hT := hT.trans hT7
                clear hT7 hV hWV
                go_wp2_with fail
                go_roundg (4 - (j + 1))
                case rel => exact ⟨j + 1, Hid.mk (by omega), by go_num, hV7, Hid.mk hW7, hT⟩
                case measure => have := HJ.out; omega
              · have hj2 : j = 4 := by omega
                subst hj2
                clear hj hj4 HJ
                generalize colB (bwd s) k X 4 = Y at *
                go_wp2_with fail
                rw [show ((4 : Nat) : Int) = 4 from rfl]
                generalize wr = wo2 at *
                go_loopg [15] 4 (fun gm iv v => ∃ j : Nat, Hid (gm + j = 4) ∧ iv = .int .i64 (j : Int) ∧ RowAt v bv .i64 3 16 (diaB (bwd s) k Y j) ∧ Hid (∀ i, i < 16 → W32 (diaB (bwd s) k Y j i)) ∧ Touch (fun x => x = bv) v5 v)
                case atStart => exact ⟨0, Hid.mk rfl, rfl, hV, HW, hT⟩
                case round =>
                  clear hV HW hT
                  obtain ⟨j, HJ, rfl, hV, HW, hT⟩ := hrel
                  have hj4 : j ≤ 4 := by have := HJ.out; omega
                  by_cases hj : j < 4
                  · have hWV := HW.out
                    clear HW
                    have o1 := ord_lt k hk (8 + 2 * j) (by omega)
                    have o2 := ord_lt k hk (9 + 2 * j) (by omega)
                    go_wp2_with fail
                    refine wp_gen (fun v => RowAt v bv .i64 3 16 (diaB (bwd s) k Y j) ∧ Touch (fun x => x = bv) v5 v) ⟨hV, hT⟩ ?_
                    clear hV hT
                    rintro v0 ⟨hV, hT⟩
                    have HOR : Hid (∀ u, Below v0.heap.size v0 u → RowAt u (bo + k) .i64 3 16 (ordI k)) := Hid.mk (fun u hu => (hord5.touch hT (by omega)).below hu (hord5.touch hT (by omega)).lt)
                    have HM : Hid (∀ u, Below v0.heap.size v0 u → RowAt u bm .i64 3 16 (bwd s)) := Hid.mk (fun u hu => (hM5.touch hT (by omega)).below hu (hM5.touch hT (by omega)).lt)
                    refine wp_region_cut 32 rfl (by kernel_rfl) (any_region3 (Below v0.heap.size v0) v0.heap.size
                      ([] : List (Nat × Cont))
                      (kv (.slice (some ⟨bv, 0, none⟩) 16 cv) :: kv (.int .i64 ((j : Nat) : Int)) :: kv (.int .i64 ((j : Nat) : Int)) :: kv (.int .i64 ((j + 1 : Nat) : Int)) :: kv (.int .i64 (((j + 1) % 4 : Nat) : Int)) :: kv (.int .i64 ((4 + (j + 1) % 4 : Nat) : Int)) :: kv (.int .i64 ((j : Nat) : Int)) :: kv (.int .i64 ((j + 2 : Nat) : Int)) :: kv (.int .i64 (((j + 2) % 4 : Nat) : Int)) :: kv (.int .i64 ((8 + (j + 2) % 4 : Nat) : Int)) :: kv (.int .i64 ((j : Nat) : Int)) :: kv (.int .i64 ((j + 3 : Nat) : Int)) :: kv (.int .i64 (((j + 3) % 4 : Nat) : Int)) :: kv (.int .i64 ((12 + (j + 3) % 4 : Nat) : Int)) :: kv (.slice (some ⟨bm, 0, none⟩) 16 cm) :: kv (.slice (some ⟨bo + k, 0, none⟩) 16 16) :: kv (.int .i64 ((j : Nat) : Int)) :: kv (.int .i64 ((2 * (j) : Nat) : Int)) :: kv (.int .i64 ((8 + 2 * (j) : Nat) : Int)) :: kv (.pointer (some ⟨bo + k, 0 + (8 + 2 * (j)), none⟩)) :: kv (.int .i64 (((ord k (8 + 2 * (j)) : Nat) : Int))) :: kv (.pointer (some ⟨bm, 0 + (ord k (8 + 2 * (j))), none⟩)) :: kv (.int .i64 (bwd s (ord k (8 + 2 * (j))))) :: kv (.slice (some ⟨bm, 0, none⟩) 16 cm) :: kv (.slice (some ⟨bo + k, 0, none⟩) 16 16) :: kv (.int .i64 ((j : Nat) : Int)) :: kv (.int .i64 ((2 * (j) : Nat) : Int)) :: kv (.int .i64 ((9 + 2 * (j) : Nat) : Int)) :: kv (.pointer (some ⟨bo + k, 0 + (9 + 2 * (j)), none⟩)) :: kv (.int .i64 (((ord k (9 + 2 * (j)) : Nat) : Int))) :: kv (.pointer (some ⟨bm, 0 + (ord k (9 + 2 * (j))), none⟩)) :: kv (.int .i64 (bwd s (ord k (9 + 2 * (j))))) :: [])
                      (.none :: .none :: .none :: .none :: .none :: .none :: .none :: .none :: .none :: .none :: .none :: .none :: .none :: .none :: .none :: .none :: .none :: .none :: .none :: .none :: .none :: .none :: .none :: .none :: .none :: .none :: .none :: .none :: .none :: .none :: .none :: .none :: [])
                      (some 128 :: some 129 :: some 130 :: some 131 :: some 132 :: some 133 :: some 134 :: some 135 :: some 136 :: some 137 :: some 138 :: some 139 :: some 140 :: some 141 :: some 142 :: some 143 :: some 144 :: some 145 :: some 146 :: some 147 :: some 148 :: some 149 :: some 150 :: some 151 :: some 152 :: some 153 :: some 154 :: some 155 :: some 156 :: some 157 :: some 158 :: some 159 :: [])
                      [(10, .slice (some ⟨bv, 0, none⟩) 16 cv), (8, .slice (some ⟨bm, 0, none⟩) 16 cm), (13, .slice (some ⟨bo + k, 0, none⟩) 16 16), (15, .int .i64 ((j : Nat) : Int))]
                      ([] :: [] :: [] :: [.slot 2] :: [.slot 3] :: [.slot 4] :: [] :: [.slot 6] :: [.slot 7] :: [.slot 8] :: [] :: [.slot 10] :: [.slot 11] :: [.slot 12] :: [] :: [] :: [] :: [.slot 16] :: [.slot 17] :: [.slot 15, .slot 18] :: [.slot 19] :: [.slot 14, .slot 20] :: [.slot 21] :: [] :: [] :: [] :: [.slot 25] :: [.slot 26] :: [.slot 24, .slot 27] :: [.slot 28] :: [.slot 23, .slot 29] :: [.slot 30] :: [])
                      [.slot 0, .slot 1, .slot 5, .slot 9, .slot 13, .slot 22, .slot 31] (128 :: 129 :: 130 :: 131 :: 132 :: 133 :: 134 :: 135 :: 136 :: 137 :: 138 :: 139 :: 140 :: 141 :: 142 :: 143 :: 144 :: 145 :: 146 :: 147 :: 148 :: 149 :: 150 :: 151 :: 152 :: 153 :: 154 :: 155 :: 156 :: 157 :: 158 :: 159 :: [])
                      (by kernel_rfl) ⟨rfl, rfl, rfl, rfl, trivial⟩ (Below.refl _ v0).drew (Nat.le_refl _) trivial trivial (below_G (Nat.le_refl _) trivial)
                      ⟨
                        -- 0
                        (fun Q aq ww own hS hBg fr kn => .inl ⟨trivial, fun K hK => wp_value (exec_move rfl fr.1) (hK _ _ ⟨Touch.refl _ _, rfl⟩)⟩),
                        -- 1
                        (fun Q aq ww own hS hBg fr kn => .inl ⟨trivial, fun K hK => wp_value (exec_move rfl fr.2.2.2.1) (hK _ _ ⟨Touch.refl _ _, rfl⟩)⟩),
                        -- 2
                        (fun Q aq ww own hS hBg fr kn => .inl ⟨trivial, fun K hK => wp_value (exec_move rfl fr.2.2.2.1) (hK _ _ ⟨Touch.refl _ _, rfl⟩)⟩),
                        -- 3
                        (fun Q aq ww own hS hBg fr kn => .inl ⟨trivial, fun K hK => wp_value (exec_addN (n := 1) rfl kn.1 rfl (by omega)) (hK _ _ ⟨Touch.refl _ _, rfl⟩)⟩),
                        -- 4
                        (fun Q aq ww own hS hBg fr kn => .inl ⟨trivial, fun K hK => wp_value (exec_remN (n := 4) rfl kn.1 rfl (by omega)) (hK _ _ ⟨Touch.refl _ _, rfl⟩)⟩),
                        -- 5
                        (fun Q aq ww own hS hBg fr kn => .inl ⟨trivial, fun K hK => wp_value (exec_addN (m := 4) rfl rfl kn.1 (by omega)) (hK _ _ ⟨Touch.refl _ _, rfl⟩)⟩),
                        -- 6
                        (fun Q aq ww own hS hBg fr kn => .inl ⟨trivial, fun K hK => wp_value (exec_move rfl fr.2.2.2.1) (hK _ _ ⟨Touch.refl _ _, rfl⟩)⟩),
                        -- 7
                        (fun Q aq ww own hS hBg fr kn => .inl ⟨trivial, fun K hK => wp_value (exec_addN (n := 2) rfl kn.1 rfl (by omega)) (hK _ _ ⟨Touch.refl _ _, rfl⟩)⟩),
                        -- 8
                        (fun Q aq ww own hS hBg fr kn => .inl ⟨trivial, fun K hK => wp_value (exec_remN (n := 4) rfl kn.1 rfl (by omega)) (hK _ _ ⟨Touch.refl _ _, rfl⟩)⟩),
                        -- 9
                        (fun Q aq ww own hS hBg fr kn => .inl ⟨trivial, fun K hK => wp_value (exec_addN (m := 8) rfl rfl kn.1 (by omega)) (hK _ _ ⟨Touch.refl _ _, rfl⟩)⟩),
                        -- 10
                        (fun Q aq ww own hS hBg fr kn => .inl ⟨trivial, fun K hK => wp_value (exec_move rfl fr.2.2.2.1) (hK _ _ ⟨Touch.refl _ _, rfl⟩)⟩),
                        -- 11
                        (fun Q aq ww own hS hBg fr kn => .inl ⟨trivial, fun K hK => wp_value (exec_addN (n := 3) rfl kn.1 rfl (by omega)) (hK _ _ ⟨Touch.refl _ _, rfl⟩)⟩),
                        -- 12
                        (fun Q aq ww own hS hBg fr kn => .inl ⟨trivial, fun K hK => wp_value (exec_remN (n := 4) rfl kn.1 rfl (by omega)) (hK _ _ ⟨Touch.refl _ _, rfl⟩)⟩),
                        -- 13
                        (fun Q aq ww own hS hBg fr kn => .inl ⟨trivial, fun K hK => wp_value (exec_addN (m := 12) rfl rfl kn.1 (by omega)) (hK _ _ ⟨Touch.refl _ _, rfl⟩)⟩),
                        -- 14
                        (fun Q aq ww own hS hBg fr kn => .inl ⟨trivial, fun K hK => wp_value (exec_move rfl fr.2.1) (hK _ _ ⟨Touch.refl _ _, rfl⟩)⟩),
                        -- 15
                        (fun Q aq ww own hS hBg fr kn => .inl ⟨trivial, fun K hK => wp_value (exec_move rfl fr.2.2.1) (hK _ _ ⟨Touch.refl _ _, rfl⟩)⟩),
                        -- 16
                        (fun Q aq ww own hS hBg fr kn => .inl ⟨trivial, fun K hK => wp_value (exec_move rfl fr.2.2.2.1) (hK _ _ ⟨Touch.refl _ _, rfl⟩)⟩),
                        -- 17
                        (fun Q aq ww own hS hBg fr kn => .inl ⟨trivial, fun K hK => wp_value (exec_mulN (m := 2) rfl rfl kn.1 (by omega)) (hK _ _ ⟨Touch.refl _ _, rfl⟩)⟩),
                        -- 18
                        (fun Q aq ww own hS hBg fr kn => .inl ⟨trivial, fun K hK => wp_value (exec_addN (m := 8) rfl rfl kn.1 (by omega)) (hK _ _ ⟨Touch.refl _ _, rfl⟩)⟩),
                        -- 19
                        (fun Q aq ww own hS hBg fr kn => .inl ⟨trivial, fun K hK => wp_value (exec_idx rfl Tryd.underlying59 size_int kn.1 kn.2.1 (by omega)) (hK _ _ ⟨Touch.refl _ _, rfl⟩)⟩),
                        -- 20
                        (fun Q aq ww own hS hBg fr kn => .inl ⟨trivial, fun K hK => wp_value (exec_ld rfl kn.1 (load_int (cell0 (HOR.out ww hS) (by omega)))) (hK _ _ ⟨Touch.refl _ _, rfl⟩)⟩),
                        -- 21
                        (fun Q aq ww own hS hBg fr kn => .inl ⟨trivial, fun K hK => wp_value (exec_idx rfl Tryd.underlying59 size_int kn.1 kn.2.1 (by omega)) (hK _ _ ⟨Touch.refl _ _, rfl⟩)⟩),
                        -- 22
                        (fun Q aq ww own hS hBg fr kn => .inl ⟨trivial, fun K hK => wp_value (exec_ld rfl kn.1 (load_int (cell0 (HM.out ww hS) (by omega)))) (hK _ _ ⟨Touch.refl _ _, rfl⟩)⟩),
                        -- 23
                        (fun Q aq ww own hS hBg fr kn => .inl ⟨trivial, fun K hK => wp_value (exec_move rfl fr.2.1) (hK _ _ ⟨Touch.refl _ _, rfl⟩)⟩),
                        -- 24
                        (fun Q aq ww own hS hBg fr kn => .inl ⟨trivial, fun K hK => wp_value (exec_move rfl fr.2.2.1) (hK _ _ ⟨Touch.refl _ _, rfl⟩)⟩),
                        -- 25
                        (fun Q aq ww own hS hBg fr kn => .inl ⟨trivial, fun K hK => wp_value (exec_move rfl fr.2.2.2.1) (hK _ _ ⟨Touch.refl _ _, rfl⟩)⟩),
                        -- 26
                        (fun Q aq ww own hS hBg fr kn => .inl ⟨trivial, fun K hK => wp_value (exec_mulN (m := 2) rfl rfl kn.1 (by omega)) (hK _ _ ⟨Touch.refl _ _, rfl⟩)⟩),
                        -- 27
                        (fun Q aq ww own hS hBg fr kn => .inl ⟨trivial, fun K hK => wp_value (exec_addN (m := 9) rfl rfl kn.1 (by omega)) (hK _ _ ⟨Touch.refl _ _, rfl⟩)⟩),
                        -- 28
                        (fun Q aq ww own hS hBg fr kn => .inl ⟨trivial, fun K hK => wp_value (exec_idx rfl Tryd.underlying59 size_int kn.1 kn.2.1 (by omega)) (hK _ _ ⟨Touch.refl _ _, rfl⟩)⟩),
                        -- 29
                        (fun Q aq ww own hS hBg fr kn => .inl ⟨trivial, fun K hK => wp_value (exec_ld rfl kn.1 (load_int (cell0 (HOR.out ww hS) (by omega)))) (hK _ _ ⟨Touch.refl _ _, rfl⟩)⟩),
                        -- 30
                        (fun Q aq ww own hS hBg fr kn => .inl ⟨trivial, fun K hK => wp_value (exec_idx rfl Tryd.underlying59 size_int kn.1 kn.2.1 (by omega)) (hK _ _ ⟨Touch.refl _ _, rfl⟩)⟩),
                        -- 31
                        (fun Q aq ww own hS hBg fr kn => .inl ⟨trivial, fun K hK => wp_value (exec_ld rfl kn.1 (load_int (cell0 (HM.out ww hS) (by omega)))) (hK _ _ ⟨Touch.refl _ _, rfl⟩)⟩),
                        trivial⟩ ?_)
                    intro vs own v6 hB6 hs6 kn inj
                    clear inj hs6
                    have e128 : vs 128 = _ := kn.1
                    have e129 : vs 129 = _ := kn.2.1
                    have e133 : vs 133 = _ := kn.2.2.1
                    have e137 : vs 137 = _ := kn.2.2.2.1
                    have e141 : vs 141 = _ := kn.2.2.2.2.1
                    have e150 : vs 150 = _ := kn.2.2.2.2.2.1
                    have e159 : vs 159 = _ := kn.2.2.2.2.2.2.1
                    clear kn HOR HM
                    replace hV := hV.below hB6 hV.lt
                    replace hT := hT.trans (touch_mono_false (touch_below hB6))
                    clear hB6
                    show wpList Tryd.prog _ _ (_ :: []) _ _
                    simp only [putAll, Act.put, List.setIfInBounds_toArray, List.set_cons_zero, List.set_cons_succ, e128, e129, e133, e137, e141, e150, e159]
                    go_wp2_with fail
                    refine (rmix_run bv 16 cv _ j (4 + (j + 1) % 4) (8 + (j + 2) % 4) (12 + (j + 3) % 4) (bwd s (ord k (8 + 2 * j))) (bwd s (ord k (9 + 2 * j))) _ hV hWV (by omega) (by omega) (by omega) (by omega) (bwd_w HSB.out (by omega)) (bwd_w HSB.out (by omega))).mono ?_
                    rintro e v7 ⟨rfl, hV7, hW7, hT7⟩
                    replace hT := hT.trans hT7
                    clear hT7 hV hWV
                    go_wp2_with fail
                    go_roundg (4 - (j + 1))
                    case rel => exact ⟨j + 1, Hid.mk (by omega), by go_num, hV7, Hid.mk hW7, hT⟩
                    case measure => have := HJ.out; omega
                  · have hj2 : j = 4 := by omega
                    subst hj2
                    clear hj hj4 HJ
                    rw [HN.out] at hV HW
                    go_wp2_with fail
                    go_roundg (10 - (k + 1))
                    case rel => exact ⟨k + 1, Hid.mk (by omega), by go_num, hV, HW, hT⟩
                    case measure => have := HK.out; omega
          · have hk2 : k = 10 := by omega
            subst hk2
            have HTF : Hid (∀ q, takeF h s t true q = xorw (xorw (h q) (tenB (bwd s) (begV h t true) 10 q)) (tenB (bwd s) (begV h t true) 10 (q + 8))) := Hid.mk (fun _ => rfl)
            generalize tenB (bwd s) (begV h t true) 10 = vt at *
            have hHr := hH5.touch hT (by omega)
            have hTw : Touch (fun x => x = bh) w wr := touch_mono_false ⟨hT.os.trans hB5.os, hT.tape.trans hB5.tape, hT.output.trans hB5.output, Nat.le_trans hB5.size hT.size, fun q hq _ => (hT.block q (Nat.lt_of_lt_of_le hq hB5.size) (by omega)).trans (hB5.block q hq)⟩
            clear hT hk hk10 HK
            go_wp2_with fail
            rw [show ((10 : Nat) : Int) = 10 from rfl]
            generalize wr = wo3 at *
            go_loopg [16] 8 (fun gm iv v => ∃ j : Nat, Hid (gm + j = 8) ∧ iv = .int .i64 (j : Int) ∧ RowAt v bh .i64 3 8 (fun q => if q < j then takeF h s t true q else h q) ∧ RowAt v bv .i64 3 16 vt ∧ Touch (fun x => x = bh) w v)
            case atStart => exact ⟨0, Hid.mk rfl, rfl, hHr.mono (Nat.le_refl _) (fun q _ => by rw [if_neg (by omega)]), hV, hTw⟩
            case round =>
              clear hHr hV hTw
              obtain ⟨j, HJ, rfl, hHj, hV, hT⟩ := hrel
              have hj8 : j ≤ 8 := by have := HJ.out; omega
              by_cases hj : j < 8
              · have HW1 : Hid (W32 (if j < j then takeF h s t true j else h j)) := Hid.mk (by rw [if_neg (by omega)]; exact hh j hj)
                have HNX : Hid (∀ q, q < 8 → upd (fun q => if q < j then takeF h s t true q else h q) j (xorw (xorw (if j < j then takeF h s t true j else h j) (vt j)) (vt (j + 8))) q = (fun q => if q < j + 1 then takeF h s t true q else h q) q) := Hid.mk (fun q _ => by
                  unfold upd
                  by_cases e : q = j
                  · subst e
                    show (if q = q then _ else _) = (if q < q + 1 then takeF h s t true q else h q)
                    rw [if_pos rfl, if_neg (by omega), if_pos (by omega), HTF.out]
                  · show (if q = j then _ else _) = (if q < j + 1 then takeF h s t true q else h q)
                    rw [if_neg e]
                    show (if q < j then takeF h s t true q else h q) = _
                    by_cases h2 : q < j
                    · rw [if_pos h2, if_pos (by omega)]
                    · rw [if_neg h2, if_neg (by omega)])
                have HWT := HW
                generalize hhc : (fun q => if q < j then takeF h s t true q else h q) = hc at *
                replace HW1 : Hid (W32 (hc j)) := by rw [← hhc]; exact HW1
                replace HNX : Hid (∀ q, q < 8 → upd hc j (xorw (xorw (hc j) (vt j)) (vt (j + 8))) q = (fun q => if q < j + 1 then takeF h s t true q else h q) q) := by rw [← hhc]; rw [← hhc] at HNX; exact HNX
                clear hhc
                go_wp2_with fail
                refine wp_gen (fun v => RowAt v bh .i64 3 8 hc ∧ RowAt v bv .i64 3 16 vt ∧ Touch (fun x => x = bh) w v) ⟨hHj, hV, hT⟩ ?_
                clear hHj hV hT
                rintro v0 ⟨hHj, hV, hT⟩
                have HH : Hid (∀ u, Below v0.heap.size v0 u → RowAt u bh .i64 3 8 hc) := Hid.mk (fun u hu => hHj.below hu hHj.lt)
                have HV : Hid (∀ u, Below v0.heap.size v0 u → RowAt u bv .i64 3 16 vt) := Hid.mk (fun u hu => hV.below hu hV.lt)
                refine wp_region_cut 18 rfl (by kernel_rfl) (any_region3 (Below v0.heap.size v0) v0.heap.size
                  ([] : List (Nat × Cont))
                  [kv (.slice (some ⟨bh, 0, none⟩) 8 ch), kv (.int .i64 ((j : Nat) : Int)), kv (.slice (some ⟨bh, 0, none⟩) 8 ch), kv (.int .i64 ((j : Nat) : Int)), kv (.pointer (some ⟨bh, 0 + (j), none⟩)), kv (.int .i64 (hc j)), kv (.slice (some ⟨bv, 0, none⟩) 16 cv), kv (.int .i64 ((j : Nat) : Int)), kv (.pointer (some ⟨bv, 0 + (j), none⟩)), kv (.int .i64 (vt j)), kv (.int .i64 (xorw (hc j) (vt j))), kv (.slice (some ⟨bv, 0, none⟩) 16 cv), kv (.int .i64 ((j : Nat) : Int)), kv (.int .i64 ((j + 8 : Nat) : Int)), kv (.pointer (some ⟨bv, 0 + (j + 8), none⟩)), kv (.int .i64 (vt (j + 8))), kv (.int .i64 (xorw (xorw (hc j) (vt j)) (vt (j + 8)))), kv (.pointer (some ⟨bh, 0 + (j), none⟩))]
                  [.none, .none, .none, .none, .none, .none, .none, .none, .none, .none, .none, .none, .none, .none, .none, .none, .none, .none]
                  [some 165, some 166, some 167, some 168, some 169, some 170, some 171, some 172, some 173, some 174, some 175, some 176, some 177, some 178, some 179, some 180, some 181, some 182]
                  [(0, .slice (some ⟨bh, 0, none⟩) 8 ch), (16, .int .i64 ((j : Nat) : Int)), (10, .slice (some ⟨bv, 0, none⟩) 16 cv)]
                  [[], [], [], [], [.slot 2, .slot 3], [.slot 4], [], [], [.slot 6, .slot 7], [.slot 8], [.slot 5, .slot 9], [], [], [.slot 12], [.slot 11, .slot 13], [.slot 14], [.slot 10, .slot 15], [.slot 0, .slot 1]]
                  [.slot 16, .slot 17] [165, 166, 167, 168, 169, 170, 171, 172, 173, 174, 175, 176, 177, 178, 179, 180, 181, 182]
                  (by kernel_rfl) ⟨rfl, rfl, rfl, trivial⟩ (Below.refl _ v0).drew (Nat.le_refl _) trivial trivial (below_G (Nat.le_refl _) trivial)
                  ⟨
                    -- 0
                    (fun Q aq ww own hS hBg fr kn => .inl ⟨trivial, fun K hK => wp_value (exec_move rfl fr.1) (hK _ _ ⟨Touch.refl _ _, rfl⟩)⟩),
                    -- 1
                    (fun Q aq ww own hS hBg fr kn => .inl ⟨trivial, fun K hK => wp_value (exec_move rfl fr.2.1) (hK _ _ ⟨Touch.refl _ _, rfl⟩)⟩),
                    -- 2
                    (fun Q aq ww own hS hBg fr kn => .inl ⟨trivial, fun K hK => wp_value (exec_move rfl fr.1) (hK _ _ ⟨Touch.refl _ _, rfl⟩)⟩),
                    -- 3
                    (fun Q aq ww own hS hBg fr kn => .inl ⟨trivial, fun K hK => wp_value (exec_move rfl fr.2.1) (hK _ _ ⟨Touch.refl _ _, rfl⟩)⟩),
                    -- 4
                    (fun Q aq ww own hS hBg fr kn => .inl ⟨trivial, fun K hK => wp_value (exec_idx rfl Tryd.underlying59 size_int kn.1 kn.2.1 (by omega)) (hK _ _ ⟨Touch.refl _ _, rfl⟩)⟩),
                    -- 5
                    (fun Q aq ww own hS hBg fr kn => .inl ⟨trivial, fun K hK => wp_value (exec_ld rfl kn.1 (load_int (cell0 (HH.out ww hS) (by omega)))) (hK _ _ ⟨Touch.refl _ _, rfl⟩)⟩),
                    -- 6
                    (fun Q aq ww own hS hBg fr kn => .inl ⟨trivial, fun K hK => wp_value (exec_move rfl fr.2.2.1) (hK _ _ ⟨Touch.refl _ _, rfl⟩)⟩),
                    -- 7
                    (fun Q aq ww own hS hBg fr kn => .inl ⟨trivial, fun K hK => wp_value (exec_move rfl fr.2.1) (hK _ _ ⟨Touch.refl _ _, rfl⟩)⟩),
                    -- 8
                    (fun Q aq ww own hS hBg fr kn => .inl ⟨trivial, fun K hK => wp_value (exec_idx rfl Tryd.underlying59 size_int kn.1 kn.2.1 (by omega)) (hK _ _ ⟨Touch.refl _ _, rfl⟩)⟩),
                    -- 9
                    (fun Q aq ww own hS hBg fr kn => .inl ⟨trivial, fun K hK => wp_value (exec_ld rfl kn.1 (load_int (cell0 (HV.out ww hS) (by omega)))) (hK _ _ ⟨Touch.refl _ _, rfl⟩)⟩),
                    -- 10
                    (fun Q aq ww own hS hBg fr kn => .inl ⟨trivial, fun K hK => wp_value (exec_xor rfl kn.1 kn.2.1 HW1.out (HWT.out j (by omega))) (hK _ _ ⟨Touch.refl _ _, rfl⟩)⟩),
                    -- 11
                    (fun Q aq ww own hS hBg fr kn => .inl ⟨trivial, fun K hK => wp_value (exec_move rfl fr.2.2.1) (hK _ _ ⟨Touch.refl _ _, rfl⟩)⟩),
                    -- 12
                    (fun Q aq ww own hS hBg fr kn => .inl ⟨trivial, fun K hK => wp_value (exec_move rfl fr.2.1) (hK _ _ ⟨Touch.refl _ _, rfl⟩)⟩),
                    -- 13
                    (fun Q aq ww own hS hBg fr kn => .inl ⟨trivial, fun K hK => wp_value (exec_addN (n := 8) rfl kn.1 rfl (by omega)) (hK _ _ ⟨Touch.refl _ _, rfl⟩)⟩),
                    -- 14
                    (fun Q aq ww own hS hBg fr kn => .inl ⟨trivial, fun K hK => wp_value (exec_idx rfl Tryd.underlying59 size_int kn.1 kn.2.1 (by omega)) (hK _ _ ⟨Touch.refl _ _, rfl⟩)⟩),
                    -- 15
                    (fun Q aq ww own hS hBg fr kn => .inl ⟨trivial, fun K hK => wp_value (exec_ld rfl kn.1 (load_int (cell0 (HV.out ww hS) (by omega)))) (hK _ _ ⟨Touch.refl _ _, rfl⟩)⟩),
                    -- 16
                    (fun Q aq ww own hS hBg fr kn => .inl ⟨trivial, fun K hK => wp_value (exec_xor rfl kn.1 kn.2.1 (xorw_w HW1.out (HWT.out j (by omega))) (HWT.out (j + 8) (by omega))) (hK _ _ ⟨Touch.refl _ _, rfl⟩)⟩),
                    -- 17
                    (fun Q aq ww own hS hBg fr kn => .inl ⟨trivial, fun K hK => wp_value (exec_idx rfl Tryd.underlying59 size_int kn.1 kn.2.1 (by omega)) (hK _ _ ⟨Touch.refl _ _, rfl⟩)⟩),
                    trivial⟩ ?_)
                intro vs own v6 hB6 hs6 kn inj
                clear inj hs6
                have e181 : vs 181 = _ := kn.1
                have e182 : vs 182 = _ := kn.2.1
                rw [Nat.zero_add] at e182
                clear kn
                have hH6 := HH.out _ hB6
                have hV6 := HV.out _ hB6
                replace hT := hT.trans (touch_mono_false (touch_below hB6))
                clear hB6 HH HV hHj hV
                have c0 := hH6.cell j hj
                have f0 := hH6.free j hj
                have hHn := Hid.mk ((hH6.set j (xorw (xorw (hc j) (vt j)) (vt (j + 8)))).mono (Nat.le_refl _) HNX.out)
                have hVn := Hid.mk (hV6.only (only_set (w := v6) (g := bh) (i := j) (v := .int .i64 (xorw (xorw (hc j) (vt j)) (vt (j + 8))))) (by omega))
                have hTn := Hid.mk (hT.trans (touch_only (only_set (w := v6) (g := bh) (i := j) (v := .int .i64 (xorw (xorw (hc j) (vt j)) (vt (j + 8)))))))
                generalize xorw (xorw (hc j) (vt j)) (vt (j + 8)) = yy at *
                show wpList Tryd.prog _ _ (_ :: []) _ _
                simp only [putAll, Act.put, List.setIfInBounds_toArray, List.set_cons_zero, List.set_cons_succ, e181, e182]
                go_wp2_with fail
                go_roundg (8 - (j + 1))
                case rel => exact ⟨j + 1, Hid.mk (by omega), by go_num, hHn.out, hVn.out, hTn.out⟩
                case measure => have := HJ.out; omega
              · have hj2 : j = 8 := by omega
                subst hj2
                replace hHj := hHj.mono (Nat.le_refl _) (s' := takeF h s t true) (fun q hq => by rw [if_pos hq])
                go_wp2_with fail
                go_end0
                exact ⟨rfl, hHj, fun q hq => by rw [HTF.out]; exact xorw_w (xorw_w (hh q hq) (HW.out q (by omega))) (HW.out (q + 8) (by omega)), hT⟩
end Go.Proofs.YtcefoonflpofgaaDoor
/-
  Own text. What behind of package blake gives: a block, taken.
-/
namespace Go.Proofs.YtcefoonflpofgaaDoor
open Go.RowKit Go.Proofs
theorem enterInOrder (args : Array Value) (w : World) : (callFunc 34 args).run Tryd.prog w = .ok (.enter 34 args) w := by kernel_rfl
theorem enterRound (args : Array Value) (w : World) : (callFunc 33 args).run Tryd.prog w = .ok (.enter 33 args) w := by kernel_rfl
theorem isSt : IsArr 53 8 := ⟨_, _, Tryd.underlying53, by kernel_rfl⟩
theorem isB64 : IsArr 48 64 := ⟨_, _, Tryd.underlying48, by kernel_rfl⟩
theorem xorw_assoc (x y z : Int) : xorw (xorw x y) z = xorw x (xorw y z) := by
  unfold xorw
  simp only [Int.toNat_natCast, Nat.xor_assoc]
theorem heap_a41 (w : World) (A B C D : Obj) : ((((w.alloc A).alloc B).alloc C).alloc D).heap[w.heap.size]? = some A := by
  have h := heap_a31 w A B C
  have hl : w.heap.size < (((w.alloc A).alloc B).alloc C).heap.size := heap_lt h
  rw [← h]
  exact heap_alloc_old _ _ hl
theorem heap_a42 (w : World) (A B C D : Obj) : ((((w.alloc A).alloc B).alloc C).alloc D).heap[w.heap.size + 1]? = some B := by
  have h := heap_a32 w A B C
  have hl : w.heap.size + 1 < (((w.alloc A).alloc B).alloc C).heap.size := heap_lt h
  rw [← h]
  exact heap_alloc_old _ _ hl
theorem heap_a43 (w : World) (A B C D : Obj) : ((((w.alloc A).alloc B).alloc C).alloc D).heap[w.heap.size + 1 + 1]? = some C := by
  have h := heap_a3 w A B C
  have hl : w.heap.size + 1 + 1 < (((w.alloc A).alloc B).alloc C).heap.size := heap_lt h
  rw [← h]
  exact heap_alloc_old _ _ hl
theorem exec_not32 {a : Act} {o : Oper} {w : World} {x : Operand} (ho : o.op = .unOp .xor 51 x) {n y : Int} (hx : a.eval x = .int .u32 n) (hn : W32 n) (hy : xorw n 4294967295 = y) : (execOp a.eval o).run Tryd.prog w = .ok (.value (.int .u32 y)) w := by
  have e : bits .xor .u32 IntKind.u32.max n = y := by
    rw [show IntKind.u32.max = 4294967295 by decide, ← hy, xorw_comm]
    exact xor_u32 (by unfold W32; omega) hn
  have h : (Op.unary .xor (.int .u32 n)).run Tryd.prog w = .ok (.int .u32 (bits .xor .u32 IntKind.u32.max n)) w := rfl
  rw [e] at h
  unfold execOp
  simp only [ho, hx, Sem.run_bind, h, Result.andThen_ok, Sem.run_pure]
/-- The sixteen words, half of them laid. -/
def halfV (h : Nat → Int) (i q : Nat) : Int := if q < i then h q else if 8 ≤ q ∧ q < 8 + i then bgn (q - 8) else 0
theorem halfV_next (h : Nat → Int) (i : Nat) (hi : i < 8) : upd (upd (halfV h i) i (h i)) (8 + i) (bgn i) = halfV h (i + 1) := by
  funext q
  unfold upd halfV
  by_cases e1 : q = 8 + i
  · subst e1; rw [if_pos rfl, if_neg (by omega), if_pos (by omega), Nat.add_sub_cancel_left]
  · rw [if_neg e1]
    by_cases e2 : q = i
    · subst e2; rw [if_pos rfl, if_pos (by omega)]
    · rw [if_neg e2]
      by_cases e3 : q < i
      · rw [if_pos e3, if_pos (by omega)]
      · have r1 : ¬ q < i + 1 := by omega
        rw [if_neg e3, if_neg r1]
        by_cases e4 : 8 ≤ q ∧ q < 8 + i
        · have r2 : 8 ≤ q ∧ q < 8 + (i + 1) := by omega
          rw [if_pos e4, if_pos r2]
        · have r2 : ¬ (8 ≤ q ∧ q < 8 + (i + 1)) := by omega
          rw [if_neg e4, if_neg r2]
theorem halfV_zero (h : Nat → Int) : halfV h 0 = fun _ => 0 := by
  funext q
  unfold halfV
  rw [if_neg (by omega), if_neg (by omega)]
/-- The first j of one row, then another. -/
def ovr (f h : Nat → Int) (j q : Nat) : Int := if q < j then f q else h q
theorem ovr_next (f h : Nat → Int) (j : Nat) : upd (ovr f h j) j (f j) = ovr f h (j + 1) := by
  funext q
  unfold upd ovr
  by_cases e : q = j
  · subst e; rw [if_pos rfl, if_pos (by omega)]
  · rw [if_neg e]
    by_cases h3 : q < j
    · have r : q < j + 1 := by omega
      rw [if_pos h3, if_pos r]
    · have r : ¬ q < j + 1 := by omega
      rw [if_neg h3, if_neg r]
theorem ovr_zero (f h : Nat → Int) : ovr f h 0 = h := by
  funext q
  unfold ovr
  rw [if_neg (by omega)]
theorem ovr_at (f h : Nat → Int) (j : Nat) : ovr f h j j = h j := by unfold ovr; rw [if_neg (by omega)]
theorem ovr_full {f h : Nat → Int} {n : Nat} : ∀ i, i < n → ovr f h n i = f i := fun i hi => by unfold ovr; rw [if_pos hi]
set_option maxHeartbeats 16000000 in
set_option maxRecDepth 100000 in
theorem behind_run (h bl : Nat → Int) (t : Int) (last : Bool) (w : World) (hTw : Tabs w) (hh : ∀ i, i < 8 → W32 (h i)) (hbl : Byts 64 bl) (ht : 0 ≤ t ∧ t < 18446744073709551616) :
    Calls Tryd.prog 29 #[.agg (WA .u32 8 h), .agg (WA .u8 64 bl), .int .u64 t, .bool last] w fun e w' => e = .returned (.agg (WA .u32 8 (takeF h bl t last))) ∧ Below w.heap.size w w' := by
  have g0 : ArrAt ((((w.alloc (.cells (WA .u32 8 h) 53)).alloc (.cells (WA .u8 64 bl) 48)).alloc (.cells (WA .u32 8 fun _ => 0) 53)).alloc (.cells (WA .u32 16 fun _ => 0) 68)) w.heap.size .u32 53 8 h := heap_a41 w _ _ _ _
  have g1 : ArrAt ((((w.alloc (.cells (WA .u32 8 h) 53)).alloc (.cells (WA .u8 64 bl) 48)).alloc (.cells (WA .u32 8 fun _ => 0) 53)).alloc (.cells (WA .u32 16 fun _ => 0) 68)) (w.heap.size + 1) .u8 48 64 bl := heap_a42 w _ _ _ _
  have g2 : ArrAt ((((w.alloc (.cells (WA .u32 8 h) 53)).alloc (.cells (WA .u8 64 bl) 48)).alloc (.cells (WA .u32 8 fun _ => 0) 53)).alloc (.cells (WA .u32 16 fun _ => 0) 68)) (w.heap.size + 1 + 1) .u32 53 8 (fun _ => 0) := heap_a43 w _ _ _ _
  have gv : ArrAt ((((w.alloc (.cells (WA .u32 8 h) 53)).alloc (.cells (WA .u8 64 bl) 48)).alloc (.cells (WA .u32 8 fun _ => 0) 53)).alloc (.cells (WA .u32 16 fun _ => 0) 68)) (w.heap.size + 1 + 1 + 1) .u32 68 16 (fun _ => 0) := heap_a4 w _ _ _ _
  have hB : Below w.heap.size w ((((w.alloc (.cells (WA .u32 8 h) 53)).alloc (.cells (WA .u8 64 bl) 48)).alloc (.cells (WA .u32 8 fun _ => 0) 53)).alloc (.cells (WA .u32 16 fun _ => 0) 68)) := ((((Below.refl _ w).alloc (by simp) _).alloc (by simp) _).alloc (by simp; omega) _).alloc (by simp; omega) _
  have h2 := hTw.two
  have HTw := Hid.mk hTw
  clear hTw
  go_enter Tryd.func29, Tryd.ntmps29
  go_wp2_with fail
  go_loopg [14] 8 (fun gm iv v => ∃ i : Nat, Hid (gm + i = 8) ∧ iv = .int .i64 (i : Int) ∧ ArrAt v w.heap.size .u32 53 8 h ∧ ArrAt v (w.heap.size + 1) .u8 48 64 bl ∧ ArrAt v (w.heap.size + 1 + 1) .u32 53 8 (fun _ => 0) ∧ ArrAt v (w.heap.size + 1 + 1 + 1) .u32 68 16 (halfV h i) ∧ Below w.heap.size w v)
  case atStart => exact ⟨0, Hid.mk rfl, rfl, g0, g1, g2, by rw [halfV_zero]; exact gv, hB⟩
  case round =>
    clear g0 g1 g2 gv hB
    obtain ⟨i, HI, rfl, g0, g1, g2, gv, hB⟩ := hrel
    have hi8 : i ≤ 8 := by have := HI.out; omega
    by_cases hil : i < 8
    · have HN := Hid.mk (halfV_next h i hil)
      have c0 := g0.cell i hil
      have cg := (HTw.out.below hB h2).beg i hil
      have cv := gv.cell i (by omega)
      have fv := gv.free i
      have cw := gv.cell (8 + i) (by omega)
      have fw := gv.free (8 + i)
      have HG := Hid.mk ((gv.set i (h i) (by omega)).set (8 + i) (bgn i) (by omega))
      rw [HN.out] at HG
      generalize bgn i = bi at *
      generalize h i = hi at *
      go_wp2_with fail
      go_region
      go_wp2_with fail
      go_roundg (8 - (i + 1))
      case rel => exact ⟨i + 1, Hid.mk (by omega), by go_num, (g0.other _ (by omega)).other _ (by omega), (g1.other _ (by omega)).other _ (by omega), (g2.other _ (by omega)).other _ (by omega), HG.out, (Below.setCell (Below.setCell hB (by simp; omega) _) (by simp; omega) _).drew⟩
      case measure => have := HI.out; omega
    · have hi2 : i = 8 := by omega
      subst hi2
      clear hil hi8 HI
      have W0 : ∀ q, q < 16 → W32 (halfV h 8 q) := fun q hq => by
        unfold halfV
        split
        · exact hh q (by omega)
        · rw [if_pos (by omega)]; exact bgn_w _
      have HQ0 : Hid (∀ q, q < 16 → halfV h 8 q = if q < 8 then h q else bgn (q - 8)) := Hid.mk (fun q hq => by
        unfold halfV
        split
        · rfl
        · rw [if_pos (by omega)])
      generalize halfV h 8 = V0 at *
      have HB2 := Hid.mk (begV_false h V0 t HQ0.out)
      have T1 : W32 (t % 4294967296) := by unfold W32; omega
      have T2 : W32 (t / 4294967296) := by unfold W32; omega
      have T3 : t / 4294967296 % 4294967296 = t / 4294967296 := by omega
      have x12 := xor_u32 (W0 12 (by omega)) T1
      have c12 := gv.cell 12 (by omega)
      have f12 := gv.free 12
      have gv1 := gv.set 12 (xorw (V0 12) (t % 4294967296)) (by omega)
      have W1 : ∀ i, i < 16 → W32 (upd V0 12 (xorw (V0 12) (t % 4294967296)) i) := w32_upd W0 (xorw_w (W0 12 (by omega)) T1)
      generalize upd V0 12 (xorw (V0 12) (t % 4294967296)) = V1 at *
      have x13 := xor_u32 (W1 13 (by omega)) T2
      have c13 := gv1.cell 13 (by omega)
      have f13 := gv1.free 13
      have gv2 := gv1.set 13 (xorw (V1 13) (t / 4294967296)) (by omega)
      have W2 : ∀ i, i < 16 → W32 (upd V1 13 (xorw (V1 13) (t / 4294967296)) i) := w32_upd W1 (xorw_w (W1 13 (by omega)) T2)
      generalize upd V1 13 (xorw (V1 13) (t / 4294967296)) = V2 at *
      replace gv2 := gv2.congr (s' := begV h t false) HB2.out
      replace W2 : ∀ i, i < 16 → W32 (begV h t false i) := fun i hi => by rw [← HB2.out i hi]; exact W2 i hi
      replace g0 := (g0.other (g := (w.heap.size + 1 + 1 + 1)) (i := 12) (.int .u32 (xorw (V0 12) (t % 4294967296))) (by omega)).other (g := (w.heap.size + 1 + 1 + 1)) (i := 13) (.int .u32 (xorw (V1 13) (t / 4294967296))) (by omega)
      replace g1 := (g1.other (g := (w.heap.size + 1 + 1 + 1)) (i := 12) (.int .u32 (xorw (V0 12) (t % 4294967296))) (by omega)).other (g := (w.heap.size + 1 + 1 + 1)) (i := 13) (.int .u32 (xorw (V1 13) (t / 4294967296))) (by omega)
      replace g2 := (g2.other (g := (w.heap.size + 1 + 1 + 1)) (i := 12) (.int .u32 (xorw (V0 12) (t % 4294967296))) (by omega)).other (g := (w.heap.size + 1 + 1 + 1)) (i := 13) (.int .u32 (xorw (V1 13) (t / 4294967296))) (by omega)
      replace hB := Below.setCell (Below.setCell hB (p := ⟨(w.heap.size + 1 + 1 + 1), 12, none⟩) (by simp; omega) (.int .u32 (xorw (V0 12) (t % 4294967296)))) (p := ⟨(w.heap.size + 1 + 1 + 1), 13, none⟩) (by simp; omega) (.int .u32 (xorw (V1 13) (t / 4294967296)))
      generalize xorw (V0 12) (t % 4294967296) = y12 at *
      generalize xorw (V1 13) (t / 4294967296) = y13 at *
      clear gv HB2 HQ0 W0 W1 T1 T2 gv1
      cases last with
      | false =>
        have gv := gv2
        clear gv2
        have HV : Hid (∀ i, i < 16 → W32 (begV h t false i)) := Hid.mk W2
        go_wp2_with (refine ld_arr isB64 g1 (by rfl) ?_)
        refine (wordsOf_run bl _ hbl).mono ?_
        rintro e v4 ⟨rfl, hb4⟩
        replace g0 := g0.kept hb4
        replace g2 := g2.kept hb4
        replace gv := gv.kept hb4
        replace hB := hB.trans (hb4.mono hB.size)
        clear hb4 g1
        have gn := fun o (ho : o = Obj.cells (WA .u32 16 fun _ => 0) 68 (0, 0)) => (by rw [ho]; exact heap_alloc_new v4 _ : ArrAt (v4.alloc o) v4.heap.size .u32 68 16 (fun _ => 0))
        have HBS := Hid.mk hB.size
        have hz := gv.lt
        go_wp2_with (refine st_arr isW (gn _ rfl) (by rfl) (by rfl) ?_; intro v5 gm o5; refine Hid.out ?_)
        replace hB := (hB.alloc HBS.out _).trans (o5.below HBS.out)
        replace g0 := (g0.alloc _).only o5 (by omega)
        replace g2 := (g2.alloc _).only o5 (by omega)
        replace gv := (gv.alloc _).only o5 (by omega)
        clear o5 gn HBS
        generalize v4.heap.size = bm at *
        have HT5 : Hid (Tabs v5) := Hid.mk (HTw.out.below hB h2)
        refine Hid.mk ?_
        go_wp2_with fail
        go_loopg [49] 10 (fun gm iv v => ∃ k : Nat, Hid (gm + k = 10) ∧ iv = .int .i64 (k : Int) ∧ ArrAt v (w.heap.size + 1 + 1 + 1) .u32 68 16 (tenB (bwd bl) (begV h t false) k) ∧ Hid (∀ i, i < 16 → W32 (tenB (bwd bl) (begV h t false) k i)) ∧ Touch (fun x => x = (w.heap.size + 1 + 1 + 1)) v5 v)
        case atStart => exact ⟨0, Hid.mk rfl, rfl, gv, HV, Touch.refl _ _⟩
        case round =>
          clear gv
          obtain ⟨k, HK, rfl, gv, HX, hT5⟩ := hrel
          have hk10 : k ≤ 10 := by have := HK.out; omega
          by_cases hk : k < 10
          · have HN : Hid (rndM (tenB (bwd bl) (begV h t false) k) (fun j => bwd bl (ord k j)) = tenB (bwd bl) (begV h t false) (k + 1)) := Hid.mk (round_eq (bwd bl) k _).symm
            generalize tenB (bwd bl) (begV h t false) k = X at *
            go_wp2_with fail
            refine wp_gen (fun v => ArrAt v (w.heap.size + 1 + 1 + 1) .u32 68 16 X ∧ Touch (fun x => x = (w.heap.size + 1 + 1 + 1)) v5 v) ⟨gv, hT5⟩ ?_
            clear gv hT5
            rintro v0 ⟨gv, hT5⟩
            have HM : Hid (∀ u, Touch (fun x => x = (w.heap.size + 1 + 1 + 1)) v5 u → ArrAt u bm .u32 68 16 (bwd bl)) := Hid.mk (fun u hu => gm.touch hu (by omega))
            have HT : Hid (∀ u, Touch (fun x => x = (w.heap.size + 1 + 1 + 1)) v5 u → Tabs u) := Hid.mk (fun u hu => HT5.out.touch hu (by omega))
            refine wp_region3 (Touch (fun x => x = (w.heap.size + 1 + 1 + 1)) v5) v0.heap.size
              [((w.heap.size + 1 + 1 + 1), once (WA .u32 16 X) 68 5 (WA .u32 16 (rndM X fun j => bwd bl (ord k j))))]
              [kv (.agg (WA .u32 16 X)), kv (.agg (WA .u32 16 (bwd bl))), kv (.int .i64 ((k : Nat) : Int)), kv (.agg (WA .u32 16 fun j => bwd bl (ord k j))), kv (.agg (WA .u32 16 (rndM X fun j => bwd bl (ord k j)))), .val fun _ => True]
              [.none, .none, .none, .none, .none, .base 0 1]
              [some 52, some 53, some 54, some 55, some 56, none]
              [(9, .pointer (some ⟨(w.heap.size + 1 + 1 + 1), 0, none⟩)), (11, .pointer (some ⟨bm, 0, none⟩)), (12, .int .i64 ((k : Nat) : Int))]
              [[.base 0 0], [], [], [.slot 1, .slot 2], [.slot 0, .slot 3], [.slot 4, .base 0 0]]
              [.base 0 1] [52, 53, 54, 55, 56]
              rfl (by kernel_rfl) ⟨rfl, rfl, rfl, trivial⟩ (Touch.drew hT5) (Nat.le_refl _) ⟨⟨gv.lt, obIn gv⟩, trivial⟩ ⟨trivial, trivial⟩ (touch_S hT5.size)
              ⟨
                -- 0
                (fun Q aq ww own hS hBg fr kn => .inl ⟨trivial, fun K hK => wp_value (look_arr rfl isW (obAt kn.1) fr.1) (hK _ _ ⟨Touch.refl _ _, rfl⟩)⟩),
                -- 1
                (fun Q aq ww own hS hBg fr kn => .inl ⟨trivial, fun K hK => wp_value (look_arr rfl isW (HM.out ww hS) fr.2.1) (hK _ _ ⟨Touch.refl _ _, rfl⟩)⟩),
                -- 2
                (fun Q aq ww own hS hBg fr kn => .inl ⟨trivial, fun K hK => wp_value (exec_move rfl fr.2.2.1) (hK _ _ ⟨Touch.refl _ _, rfl⟩)⟩),
                -- 3
                (fun Q aq ww own hS hBg fr kn => .inl ⟨trivial, fun K hK => stepc enterInOrder rfl (args2 kn.1 kn.2.1) (inOrder_run (bwd bl) k ww (HT.out ww hS) hk) (fun w' hb => hK _ _ ⟨touch_below hb, rfl⟩)⟩),
                -- 4
                (fun Q aq ww own hS hBg fr kn => .inl ⟨trivial, fun K hK => stepc enterRound rfl (args2 kn.1 kn.2.1) (round_run X _ ww HX.out) (fun w' hb => hK _ _ ⟨touch_below hb, rfl⟩)⟩),
                -- 5
                (fun Q aq ww own hS hBg fr kn => .inl ⟨trivial, fun K hK => act_arr rfl isW fr.1 kn.1 (obAt kn.2.1) (fun w2 hg ho => hK _ _ ⟨⟨touch_only ho, obIn hg⟩, trivial⟩)⟩),
                trivial⟩ ?_
            intro vs own v6 hT6 hs6 kn inj
            clear inj hs6
            replace gv : ArrAt v6 (w.heap.size + 1 + 1 + 1) .u32 68 16 (rndM X fun j => bwd bl (ord k j)) := obAt kn.1
            clear kn HM HT hT5
            simp only [putAll, Act.put, List.setIfInBounds_toArray, List.set_cons_zero, List.set_cons_succ]
            have HW6 := Hid.mk (rndM_w (m := fun j => bwd bl (ord k j)) HX.out)
            rw [HN.out] at gv HW6
            go_wp2_with fail
            go_roundg (10 - (k + 1))
            case rel => exact ⟨k + 1, Hid.mk (by omega), by go_num, gv, HW6, hT6⟩
            case measure => have := HK.out; omega
          · have hk2 : k = 10 := by omega
            subst hk2
            have HTF : Hid (∀ q, q < 8 → takeF h bl t false q = xorw (h q) (xorw (tenB (bwd bl) (begV h t false) 10 q) (tenB (bwd bl) (begV h t false) 10 (8 + q)))) := Hid.mk (fun q _ => by unfold takeF; rw [xorw_assoc, Nat.add_comm q 8])
            generalize tenB (bwd bl) (begV h t false) 10 = vt at *
            replace g0 := g0.touch hT5 (by omega)
            replace g2 := g2.touch hT5 (by omega)
            replace hB := belowT hB hT5 (by omega) (Nat.le_refl _)
            clear hT5 hk hk10 HK gm HT5
            go_wp2_with fail
            rw [show ((10 : Nat) : Int) = 10 from rfl]
            generalize wr = wo3 at *
            go_loopg [58] 8 (fun gm iv v => ∃ j : Nat, Hid (gm + j = 8) ∧ iv = .int .i64 (j : Int) ∧ ArrAt v w.heap.size .u32 53 8 (ovr (takeF h bl t false) h j) ∧ ArrAt v (w.heap.size + 1 + 1) .u32 53 8 (fun _ => 0) ∧ ArrAt v (w.heap.size + 1 + 1 + 1) .u32 68 16 vt ∧ Below w.heap.size w v)
            case atStart => exact ⟨0, Hid.mk rfl, rfl, by rw [ovr_zero]; exact g0, g2, gv, hB⟩
            case round =>
              clear g0 g2 gv hB
              obtain ⟨j, HJ, rfl, g0, g2, gv, hB⟩ := hrel
              have hj8 : j ≤ 8 := by have := HJ.out; omega
              by_cases hj : j < 8
              · have c0 := g0.cell j hj
                have f0 := g0.free j
                rw [ovr_at] at c0
                have c1 := gv.cell j (by omega)
                have c2 := gv.cell (8 + j) (by omega)
                have e1 := xor_u32 (HX.out j (by omega)) (HX.out (8 + j) (by omega))
                have e2 := xor_u32 (hh j hj) (xorw_w (HX.out j (by omega)) (HX.out (8 + j) (by omega)))
                have HG := Hid.mk (g0.set j (takeF h bl t false j) hj)
                rw [ovr_next] at HG
                rw [HTF.out j hj] at HG
                generalize xorw (vt j) (vt (8 + j)) = x1 at *
                generalize xorw (h j) x1 = x2 at *
                go_wp2_with fail
                go_region
                go_wp2_with fail
                go_roundg (8 - (j + 1))
                case rel => exact ⟨j + 1, Hid.mk (by omega), by go_num, HG.out, (g2.other _ (by omega)), (gv.other _ (by omega)), (Below.setCell hB (by simp) _).drew⟩
                case measure => have := HJ.out; omega
              · have hj2 : j = 8 := by omega
                subst hj2
                replace g0 := g0.congr (s' := takeF h bl t false) ovr_full
                clear hj hj8 HJ HTF
                go_wp2_with (first | (refine ld_arr isSt g0 (by rfl) ?_) | (refine st_arr isSt g2 (by rfl) (by rfl) ?_; intro v9 g9 o9))
                exact bodyPost_ret (v := .agg (WA .u32 8 (takeF h bl t false))) (res_arr rfl isSt g9 rfl) rfl ⟨rfl, hB.trans (o9.below (by omega))⟩
      | true =>
        have c14 := gv2.cell 14 (by omega)
        have f14 := gv2.free 14
        have W14 := W2 14 (by omega)
        obtain ⟨y14, E14⟩ : ∃ y, xorw (begV h t false 14) 4294967295 = y := ⟨_, rfl⟩
        have gv := (gv2.set 14 (xorw (begV h t false 14) 4294967295) (by omega)).congr (s' := begV h t true) (begV_true h _ t (fun _ _ => rfl))
        have W3 : ∀ i, i < 16 → W32 (begV h t true i) := fun i hi => by
          rw [← begV_true h _ t (fun _ _ => rfl) i hi]
          exact w32_upd W2 (xorw_w (W2 14 (by omega)) (by unfold W32; omega)) i hi
        replace g0 := g0.other (g := (w.heap.size + 1 + 1 + 1)) (i := 14) (.int .u32 (xorw (begV h t false 14) 4294967295)) (by omega)
        replace g1 := g1.other (g := (w.heap.size + 1 + 1 + 1)) (i := 14) (.int .u32 (xorw (begV h t false 14) 4294967295)) (by omega)
        replace g2 := g2.other (g := (w.heap.size + 1 + 1 + 1)) (i := 14) (.int .u32 (xorw (begV h t false 14) 4294967295)) (by omega)
        replace hB := Below.setCell hB (p := ⟨(w.heap.size + 1 + 1 + 1), 14, none⟩) (by simp; omega) (.int .u32 (xorw (begV h t false 14) 4294967295))
        rw [E14] at gv g0 g1 g2 hB
        clear gv2 W2
        have HV : Hid (∀ i, i < 16 → W32 (begV h t true i)) := Hid.mk W3
        go_wp2_with (first | (refine wl_value rfl (exec_not32 rfl (by rfl) W14 E14) ?_) | (refine ld_arr isB64 g1 (by rfl) ?_))
        refine (wordsOf_run bl _ hbl).mono ?_
        rintro e v4 ⟨rfl, hb4⟩
        replace g0 := g0.kept hb4
        replace g2 := g2.kept hb4
        replace gv := gv.kept hb4
        replace hB := hB.trans (hb4.mono hB.size)
        clear hb4 g1
        have gn := fun o (ho : o = Obj.cells (WA .u32 16 fun _ => 0) 68 (0, 0)) => (by rw [ho]; exact heap_alloc_new v4 _ : ArrAt (v4.alloc o) v4.heap.size .u32 68 16 (fun _ => 0))
        have HBS := Hid.mk hB.size
        have hz := gv.lt
        go_wp2_with (refine st_arr isW (gn _ rfl) (by rfl) (by rfl) ?_; intro v5 gm o5; refine Hid.out ?_)
        replace hB := (hB.alloc HBS.out _).trans (o5.below HBS.out)
        replace g0 := (g0.alloc _).only o5 (by omega)
        replace g2 := (g2.alloc _).only o5 (by omega)
        replace gv := (gv.alloc _).only o5 (by omega)
        clear o5 gn HBS
        generalize v4.heap.size = bm at *
        have HT5 : Hid (Tabs v5) := Hid.mk (HTw.out.below hB h2)
        refine Hid.mk ?_
        go_wp2_with fail
        go_loopg [49] 10 (fun gm iv v => ∃ k : Nat, Hid (gm + k = 10) ∧ iv = .int .i64 (k : Int) ∧ ArrAt v (w.heap.size + 1 + 1 + 1) .u32 68 16 (tenB (bwd bl) (begV h t true) k) ∧ Hid (∀ i, i < 16 → W32 (tenB (bwd bl) (begV h t true) k i)) ∧ Touch (fun x => x = (w.heap.size + 1 + 1 + 1)) v5 v)
        case atStart => exact ⟨0, Hid.mk rfl, rfl, gv, HV, Touch.refl _ _⟩
        case round =>
          clear gv
          obtain ⟨k, HK, rfl, gv, HX, hT5⟩ := hrel
          have hk10 : k ≤ 10 := by have := HK.out; omega
          by_cases hk : k < 10
          · have HN : Hid (rndM (tenB (bwd bl) (begV h t true) k) (fun j => bwd bl (ord k j)) = tenB (bwd bl) (begV h t true) (k + 1)) := Hid.mk (round_eq (bwd bl) k _).symm
            generalize tenB (bwd bl) (begV h t true) k = X at *
            go_wp2_with fail
            refine wp_gen (fun v => ArrAt v (w.heap.size + 1 + 1 + 1) .u32 68 16 X ∧ Touch (fun x => x = (w.heap.size + 1 + 1 + 1)) v5 v) ⟨gv, hT5⟩ ?_
            clear gv hT5
            rintro v0 ⟨gv, hT5⟩
            have HM : Hid (∀ u, Touch (fun x => x = (w.heap.size + 1 + 1 + 1)) v5 u → ArrAt u bm .u32 68 16 (bwd bl)) := Hid.mk (fun u hu => gm.touch hu (by omega))
            have HT : Hid (∀ u, Touch (fun x => x = (w.heap.size + 1 + 1 + 1)) v5 u → Tabs u) := Hid.mk (fun u hu => HT5.out.touch hu (by omega))
            refine wp_region3 (Touch (fun x => x = (w.heap.size + 1 + 1 + 1)) v5) v0.heap.size
              [((w.heap.size + 1 + 1 + 1), once (WA .u32 16 X) 68 5 (WA .u32 16 (rndM X fun j => bwd bl (ord k j))))]
              [kv (.agg (WA .u32 16 X)), kv (.agg (WA .u32 16 (bwd bl))), kv (.int .i64 ((k : Nat) : Int)), kv (.agg (WA .u32 16 fun j => bwd bl (ord k j))), kv (.agg (WA .u32 16 (rndM X fun j => bwd bl (ord k j)))), .val fun _ => True]
              [.none, .none, .none, .none, .none, .base 0 1]
              [some 52, some 53, some 54, some 55, some 56, none]
              [(9, .pointer (some ⟨(w.heap.size + 1 + 1 + 1), 0, none⟩)), (11, .pointer (some ⟨bm, 0, none⟩)), (12, .int .i64 ((k : Nat) : Int))]
              [[.base 0 0], [], [], [.slot 1, .slot 2], [.slot 0, .slot 3], [.slot 4, .base 0 0]]
              [.base 0 1] [52, 53, 54, 55, 56]
              rfl (by kernel_rfl) ⟨rfl, rfl, rfl, trivial⟩ (Touch.drew hT5) (Nat.le_refl _) ⟨⟨gv.lt, obIn gv⟩, trivial⟩ ⟨trivial, trivial⟩ (touch_S hT5.size)
              ⟨
                -- 0
                (fun Q aq ww own hS hBg fr kn => .inl ⟨trivial, fun K hK => wp_value (look_arr rfl isW (obAt kn.1) fr.1) (hK _ _ ⟨Touch.refl _ _, rfl⟩)⟩),
                -- 1
                (fun Q aq ww own hS hBg fr kn => .inl ⟨trivial, fun K hK => wp_value (look_arr rfl isW (HM.out ww hS) fr.2.1) (hK _ _ ⟨Touch.refl _ _, rfl⟩)⟩),
                -- 2
                (fun Q aq ww own hS hBg fr kn => .inl ⟨trivial, fun K hK => wp_value (exec_move rfl fr.2.2.1) (hK _ _ ⟨Touch.refl _ _, rfl⟩)⟩),
                -- 3
                (fun Q aq ww own hS hBg fr kn => .inl ⟨trivial, fun K hK => stepc enterInOrder rfl (args2 kn.1 kn.2.1) (inOrder_run (bwd bl) k ww (HT.out ww hS) hk) (fun w' hb => hK _ _ ⟨touch_below hb, rfl⟩)⟩),
                -- 4
                (fun Q aq ww own hS hBg fr kn => .inl ⟨trivial, fun K hK => stepc enterRound rfl (args2 kn.1 kn.2.1) (round_run X _ ww HX.out) (fun w' hb => hK _ _ ⟨touch_below hb, rfl⟩)⟩),
                -- 5
                (fun Q aq ww own hS hBg fr kn => .inl ⟨trivial, fun K hK => act_arr rfl isW fr.1 kn.1 (obAt kn.2.1) (fun w2 hg ho => hK _ _ ⟨⟨touch_only ho, obIn hg⟩, trivial⟩)⟩),
                trivial⟩ ?_
            intro vs own v6 hT6 hs6 kn inj
            clear inj hs6
            replace gv : ArrAt v6 (w.heap.size + 1 + 1 + 1) .u32 68 16 (rndM X fun j => bwd bl (ord k j)) := obAt kn.1
            clear kn HM HT hT5
            simp only [putAll, Act.put, List.setIfInBounds_toArray, List.set_cons_zero, List.set_cons_succ]
            have HW6 := Hid.mk (rndM_w (m := fun j => bwd bl (ord k j)) HX.out)
            rw [HN.out] at gv HW6
            go_wp2_with fail
            go_roundg (10 - (k + 1))
            case rel => exact ⟨k + 1, Hid.mk (by omega), by go_num, gv, HW6, hT6⟩
            case measure => have := HK.out; omega
          · have hk2 : k = 10 := by omega
            subst hk2
            have HTF : Hid (∀ q, q < 8 → takeF h bl t true q = xorw (h q) (xorw (tenB (bwd bl) (begV h t true) 10 q) (tenB (bwd bl) (begV h t true) 10 (8 + q)))) := Hid.mk (fun q _ => by unfold takeF; rw [xorw_assoc, Nat.add_comm q 8])
            generalize tenB (bwd bl) (begV h t true) 10 = vt at *
            replace g0 := g0.touch hT5 (by omega)
            replace g2 := g2.touch hT5 (by omega)
            replace hB := belowT hB hT5 (by omega) (Nat.le_refl _)
            clear hT5 hk hk10 HK gm HT5
            go_wp2_with fail
            rw [show ((10 : Nat) : Int) = 10 from rfl]
            generalize wr = wo3 at *
            go_loopg [58] 8 (fun gm iv v => ∃ j : Nat, Hid (gm + j = 8) ∧ iv = .int .i64 (j : Int) ∧ ArrAt v w.heap.size .u32 53 8 (ovr (takeF h bl t true) h j) ∧ ArrAt v (w.heap.size + 1 + 1) .u32 53 8 (fun _ => 0) ∧ ArrAt v (w.heap.size + 1 + 1 + 1) .u32 68 16 vt ∧ Below w.heap.size w v)
            case atStart => exact ⟨0, Hid.mk rfl, rfl, by rw [ovr_zero]; exact g0, g2, gv, hB⟩
            case round =>
              clear g0 g2 gv hB
              obtain ⟨j, HJ, rfl, g0, g2, gv, hB⟩ := hrel
              have hj8 : j ≤ 8 := by have := HJ.out; omega
              by_cases hj : j < 8
              · have c0 := g0.cell j hj
                have f0 := g0.free j
                rw [ovr_at] at c0
                have c1 := gv.cell j (by omega)
                have c2 := gv.cell (8 + j) (by omega)
                have e1 := xor_u32 (HX.out j (by omega)) (HX.out (8 + j) (by omega))
                have e2 := xor_u32 (hh j hj) (xorw_w (HX.out j (by omega)) (HX.out (8 + j) (by omega)))
                have HG := Hid.mk (g0.set j (takeF h bl t true j) hj)
                rw [ovr_next] at HG
                rw [HTF.out j hj] at HG
                generalize xorw (vt j) (vt (8 + j)) = x1 at *
                generalize xorw (h j) x1 = x2 at *
                go_wp2_with fail
                go_region
                go_wp2_with fail
                go_roundg (8 - (j + 1))
                case rel => exact ⟨j + 1, Hid.mk (by omega), by go_num, HG.out, (g2.other _ (by omega)), (gv.other _ (by omega)), (Below.setCell hB (by simp) _).drew⟩
                case measure => have := HJ.out; omega
              · have hj2 : j = 8 := by omega
                subst hj2
                replace g0 := g0.congr (s' := takeF h bl t true) ovr_full
                clear hj hj8 HJ HTF
                go_wp2_with (first | (refine ld_arr isSt g0 (by rfl) ?_) | (refine st_arr isSt g2 (by rfl) (by rfl) ?_; intro v9 g9 o9))
                exact bodyPost_ret (v := .agg (WA .u32 8 (takeF h bl t true))) (res_arr rfl isSt g9 rfl) rfl ⟨rfl, hB.trans (o9.below (by omega))⟩
end Go.Proofs.YtcefoonflpofgaaDoor
/-
  Own text. What Hash of the document's answer for blake gives.
-/
namespace Go.Proofs.YtcefoonflpofgaaDoor
open Go.RowKit Go.Proofs
/-- The state that a hash begins with. -/
def h0F (size kl : Nat) : Nat → Int := upd bgn 0 (xorw (xorw (xorw (bgn 0) 16842752) (256 * (kl : Int))) (size : Int))
/-- All bytes that are taken. -/
def allT (key text : ByteArray) : ByteArray := if key.size = 0 then text else key ++ mkS (64 - key.size) (fun _ => 0) ++ text
/-- The state behind k blocks. -/
def stF (all : ByteArray) (h0 : Nat → Int) : Nat → Nat → Int
  | 0 => h0
  | k + 1 => takeF (stF all h0 k) (fun j => txt all (64 * k + j)) ((64 * k + min 64 (all.size - 64 * k) : Nat) : Int) (decide (64 * k + min 64 (all.size - 64 * k) = all.size))
/-- How many blocks there are. -/
def nbF (n : Nat) : Nat := if n = 0 then 1 else (n + 63) / 64
/-- The bytes of a state. -/
def outF (h : Nat → Int) (i : Nat) : Int := h (i / 4) / 256 ^ (i % 4) % 256
theorem outF_b (h : Nat → Int) (i : Nat) : 0 ≤ outF h i ∧ outF h i < 256 := by unfold outF; omega
def hashT (size : Nat) (key text : ByteArray) : ByteArray := mkS size (outF (stF (allT key text) (h0F size key.size) (nbF (allT key text).size)))
theorem h0F_w {size kl : Nat} (hs : size ≤ 64) (hk : kl ≤ 64) : ∀ i, i < 8 → W32 (h0F size kl i) := w32_upd (fun i _ => bgn_w i) (xorw_w (xorw_w (xorw_w (bgn_w 0) (by unfold W32; omega)) (by unfold W32; omega)) (by unfold W32; omega))
theorem exec_minN {a : Act} {o : Oper} {w : World} {x y : Operand} (ho : o.op = .call { callee := .builtin .min, args := #[x, y], argTypes := #[3, 3] }) {m n : Nat} (hx : a.eval x = .int .i64 (m : Int)) (hy : a.eval y = .int .i64 (n : Int)) : (execOp a.eval o).run Tryd.prog w = .ok (.value (.int .i64 ((min m n : Nat) : Int))) w := by
  have hr := run_min_int2 (P := Tryd.prog) (w := w) #[3, 3] o.type .i64 .i64 (m : Int) (n : Int)
  have e : (if (n : Int) < (m : Int) then (n : Int) else (m : Int)) = ((min m n : Nat) : Int) := by split <;> omega
  rw [e] at hr
  simp [execOp, ho, resolve, invoke, builtin, hx, hy, hr]
theorem exec_subN {a : Act} {o : Oper} {w : World} {x y : Operand} (ho : o.op = .binOp .sub 3 x y 3) {m n : Nat} (hx : a.eval x = .int .i64 (m : Int)) (hy : a.eval y = .int .i64 (n : Int)) (h : n ≤ m) (h2 : m < 9223372036854775808) : (execOp a.eval o).run Tryd.prog w = .ok (.value (.int .i64 ((m - n : Nat) : Int))) w := by
  have e : (m : Int) - (n : Int) = ((m - n : Nat) : Int) := by omega
  exact exec_bin ho rfl hx hy (by simp [go_sem, e, i64_wrap (n := ((m - n : Nat) : Int)) (by omega) (by omega)])
theorem exec_eqIN {a : Act} {o : Oper} {w : World} {x y : Operand} (ho : o.op = .binOp .eql 3 x y 3) {m n : Nat} {z : Bool} (hx : a.eval x = .int .i64 (m : Int)) (hy : a.eval y = .int .i64 (n : Int)) (hz : decide (m = n) = z) : (execOp a.eval o).run Tryd.prog w = .ok (.value (.bool z)) w := by
  subst hz
  exact exec_bin2 ho hx hy rfl (by
    by_cases e : m = n
    · simp [go_sem, e]
    · have e2 : ¬ (m : Int) = (n : Int) := by omega
      simp [go_sem, e, e2])
theorem exec_lssN {a : Act} {o : Oper} {w : World} {x y : Operand} (ho : o.op = .binOp .lss 3 x y 3) {m n : Nat} {z : Bool} (hx : a.eval x = .int .i64 (m : Int)) (hy : a.eval y = .int .i64 (n : Int)) (hz : decide (m < n) = z) : (execOp a.eval o).run Tryd.prog w = .ok (.value (.bool z)) w := by
  subst hz
  exact exec_bin ho rfl hx hy (by by_cases e : m < n <;> simp [go_sem, e])
theorem exec_minV {a : Act} {o : Oper} {w : World} {x y : Operand} (ho : o.op = .call { callee := .builtin .min, args := #[x, y], argTypes := #[3, 3] }) {m n q : Nat} (hx : a.eval x = .int .i64 (m : Int)) (hy : a.eval y = .int .i64 (n : Int)) (e : min m n = q) : (execOp a.eval o).run Tryd.prog w = .ok (.value (.int .i64 (q : Int))) w := e ▸ exec_minN ho hx hy
theorem exec_subV {a : Act} {o : Oper} {w : World} {x y : Operand} (ho : o.op = .binOp .sub 3 x y 3) {m n q : Nat} (hx : a.eval x = .int .i64 (m : Int)) (hy : a.eval y = .int .i64 (n : Int)) (e : m - n = q) (h : n ≤ m) (h2 : m < 9223372036854775808) : (execOp a.eval o).run Tryd.prog w = .ok (.value (.int .i64 (q : Int))) w := e ▸ exec_subN ho hx hy h h2
theorem exec_addV {a : Act} {o : Oper} {w : World} {x y : Operand} (ho : o.op = .binOp .add 3 x y 3) {m n q : Nat} (hx : a.eval x = .int .i64 (m : Int)) (hy : a.eval y = .int .i64 (n : Int)) (e : m + n = q) (h : m + n < 9223372036854775808) : (execOp a.eval o).run Tryd.prog w = .ok (.value (.int .i64 (q : Int))) w := e ▸ exec_addN ho hx hy h
theorem exec_mulV {a : Act} {o : Oper} {w : World} {x y : Operand} (ho : o.op = .binOp .mul 3 x y 3) {m n q : Nat} (hx : a.eval x = .int .i64 (m : Int)) (hy : a.eval y = .int .i64 (n : Int)) (e : m * n = q) (h : m * n < 9223372036854775808) : (execOp a.eval o).run Tryd.prog w = .ok (.value (.int .i64 (q : Int))) w := e ▸ exec_mulN ho hx hy h
theorem exec_remV {a : Act} {o : Oper} {w : World} {x y : Operand} (ho : o.op = .binOp .rem 3 x y 3) {m n q : Nat} (hx : a.eval x = .int .i64 (m : Int)) (hy : a.eval y = .int .i64 (n : Int)) (e : m % n = q) (h : 0 < n) : (execOp a.eval o).run Tryd.prog w = .ok (.value (.int .i64 (q : Int))) w := e ▸ exec_remN ho hx hy h
theorem strLH (s : ByteArray) (l n : Nat) (w : World) (h1 : l ≤ n) (h : n ≤ s.size) : (Instr.sliceAt 9 (.string s) (some (.int .i64 (l : Int))) (some (.int .i64 (n : Int))) none).run Tryd.prog w = .ok (.string (s.extract l n)) w := by
  have h2 : (n : Int) ≤ (s.size : Int) := by omega
  have h3 : (l : Int) ≤ (n : Int) := by omega
  simp [go_sem, h2, h3]
theorem txt_cut (s : ByteArray) (l n j : Nat) (hj : j < n - l) (h : n ≤ s.size) : txt (s.extract l n) j = txt s (l + j) := by
  have hs : j < (s.extract l n).size := by simp; omega
  rw [← txt_get hs, ← txt_get (s := s) (j := l + j) (by omega)]
  congr 2
  exact ByteArray.getElem_extract hs
theorem cut_txt (s : ByteArray) (l n : Nat) (h : n ≤ s.size) : s.extract l n = mkS (n - l) (fun j => txt s (l + j)) := by
  have hs : (s.extract l n).size = n - l := by simp; omega
  conv => lhs; rw [← mkS_txt (s.extract l n), hs]
  exact mkS_congr (fun j hj => txt_cut s l n j hj h)
theorem same_ext0 {s : ByteArray} (h : s.size = 0) : s = ⟨#[]⟩ := ByteArray.ext (Array.eq_empty_of_size_eq_zero h)
theorem txt_out {s : ByteArray} {j : Nat} (h : s.size ≤ j) : txt s j = 0 := by
  unfold txt
  rw [List.getD_eq_getElem?_getD, List.getElem?_eq_none (by simpa using h)]
  rfl
/-- The block from a place on, filled up with zeros. -/
theorem block_txt (s : ByteArray) (l n : Nat) (hn : n = min 64 (s.size - l)) : ∀ j, j < 64 → over (fun _ => 0) 0 n (fun j => txt s (l + j)) j = txt s (l + j) := fun j hj => by
  unfold over
  by_cases e : j < n
  · rw [if_pos (by omega), Nat.sub_zero]
  · rw [if_neg (by omega), txt_out (by omega)]
theorem run_makeB (n : Nat) (hn : n ≤ 64) (w : World) : (Instr.makeSlice 41 (.int .i64 (n : Int)) (.int .i64 (n : Int))).run Tryd.prog w = .ok (.slice (some ⟨w.heap.size, 0, none⟩) n n) (w.alloc (.cells (WA .u8 n fun _ => 0) 5)) := by
  have hm := run_make_row' (P := Tryd.prog) 41 5 (.int .u8 0) 1 Tryd.underlying41 infoByte rfl .i64 .i64 n (by omega) (by omega) w
  rw [made_WA] at hm
  exact hm
theorem wl_makeB {ops : Array Oper} {rest : List Oper} {d : Option Tmp} {x y : Operand} {ty : TypeId} {ps : String} {af : Array Edge} {a : Act} {w : World} {Q : Exit → Act → World → Prop} {n : Nat} (hx : a.eval x = .int .i64 (n : Int)) (hy : a.eval y = .int .i64 (n : Int)) (hn : n ≤ 64)
    (h : ∀ w', ArrAt w' w.heap.size .u8 5 n (fun _ => 0) → Below w.heap.size w w' → wpList Tryd.prog ops Q rest (a.put d (.slice (some ⟨w.heap.size, 0, none⟩) n n)) w') :
    wpList Tryd.prog ops Q ({ dst := d, op := .makeSlice 41 x y, type := ty, pos := ps, after := af, guard := none } :: rest) a w := by
  have hr := run_makeB n hn w
  refine wl_act rfl ?_
  unfold Oper.wp execOp
  simp only [hx, hy, Sem.run_bind, hr, Result.andThen_ok, Sem.run_pure, Oper.upon]
  exact h _ (heap_alloc_new w _) ((Below.refl _ _).alloc (Nat.le_refl _) _)
theorem wl_copyS {ops : Array Oper} {rest : List Oper} {dt : Option Tmp} {d s' : Operand} {ty : TypeId} {ps : String} {af : Array Edge} {a : Act} {w : World} {Q : Exit → Act → World → Prop}
    {g off dL dC n m : Nat} {t : TypeId} {s r : Nat → Int} (hd : a.eval d = .slice (some ⟨g, off, none⟩) dL dC) (hs : a.eval s' = .string (mkS m r)) (hg : ArrAt w g .u8 t n s) (hr : ∀ j, j < m → 0 ≤ r j ∧ r j < 256) (hm : m ≤ dL) (hfit : off + m ≤ n)
    (h : ∀ w', ArrAt w' g .u8 t n (over s off m r) → Only g w w' → wpList Tryd.prog ops Q rest (a.put dt (goInt m)) w') :
    wpList Tryd.prog ops Q ({ dst := dt, op := .call { callee := .builtin .copy, args := #[d, s'], argTypes := #[41, 9] }, type := ty, pos := ps, after := af, guard := none } :: rest) a w :=
  wl_act rfl (act_copyS rfl hd hs hg hr hm hfit h)
theorem shr_bytes (x : Int) (r : Nat) (hr : r < 4) (w : World) : (binOp .shr 3 (.int .i64 x) (.int .i64 ((8 * r : Nat) : Int))).run Tryd.prog w = .ok (.int .i64 (x / 256 ^ r)) w := by
  match r, hr with
  | 0, _ => simp [go_sem]
  | 1, _ => simp [go_sem]
  | 2, _ => simp [go_sem]
  | 3, _ => simp [go_sem]
theorem exec_shrB {a : Act} {o : Oper} {w : World} {x y : Operand} (ho : o.op = .binOp .shr 3 x y 3) {n : Int} {r : Nat} (hx : a.eval x = .int .i64 n) (hy : a.eval y = .int .i64 ((8 * r : Nat) : Int)) (hr : r < 4) : (execOp a.eval o).run Tryd.prog w = .ok (.value (.int .i64 (n / 256 ^ r))) w := exec_bin2 ho hx hy rfl (shr_bytes n r hr w)
theorem exec_quoN {a : Act} {o : Oper} {w : World} {x y : Operand} (ho : o.op = .binOp .quo 3 x y 3) {m n : Nat} (hx : a.eval x = .int .i64 (m : Int)) (hy : a.eval y = .int .i64 (n : Int)) (h : 0 < n) (hm : m < 9223372036854775808) : (execOp a.eval o).run Tryd.prog w = .ok (.value (.int .i64 ((m / n : Nat) : Int))) w := by
  have e : (m : Int).tdiv (n : Int) = ((m / n : Nat) : Int) := by rw [Int.tdiv_eq_ediv_of_nonneg (by omega)]; simp
  have hn : ¬ n = 0 := by omega
  have hle : m / n ≤ m := Nat.div_le_self _ _
  have e2 : IntKind.i64.wrap ((m : Int) / (n : Int)) = (m : Int) / (n : Int) := by
    have e3 : (m : Int) / (n : Int) = ((m / n : Nat) : Int) := by simp
    generalize m / n = q at *
    rw [e3]
    exact i64_wrap (by omega) (by omega)
  exact exec_bin ho rfl hx hy (by simp [go_sem, hn, e, e2])
theorem exec_quoV {a : Act} {o : Oper} {w : World} {x y : Operand} (ho : o.op = .binOp .quo 3 x y 3) {m n q : Nat} (hx : a.eval x = .int .i64 (m : Int)) (hy : a.eval y = .int .i64 (n : Int)) (e : m / n = q) (h : 0 < n) (hm : m < 9223372036854775808) : (execOp a.eval o).run Tryd.prog w = .ok (.value (.int .i64 (q : Int))) w := e ▸ exec_quoN ho hx hy h hm
theorem exec_shrV {a : Act} {o : Oper} {w : World} {x y : Operand} (ho : o.op = .binOp .shr 3 x y 3) {n : Int} {r q : Nat} (hx : a.eval x = .int .i64 n) (hy : a.eval y = .int .i64 (q : Int)) (e : 8 * r = q) (hr : r < 4) : (execOp a.eval o).run Tryd.prog w = .ok (.value (.int .i64 (n / 256 ^ r))) w := exec_shrB ho hx (e ▸ hy) hr
theorem conv_ib (n : Int) (w : World) : (convert 3 5 (.int .i64 n)).run Tryd.prog w = .ok (.int .u8 (n % 256)) w := by
  have e : IntKind.u8.wrap n = n % 256 := by rw [IntKind.wrap_u8]
  simp [go_sem, e]
theorem run_bsB (n : Int) (w : World) : (Instr.buildSlice 41 1 #[(0, .int .u8 n)]).run Tryd.prog w = .ok (.slice (some ⟨w.heap.size, 0, none⟩) 1 1) (w.alloc (.cells #[.int .u8 n] 5)) := by simp [go_sem]
theorem wl_bsB {ops : Array Oper} {rest : List Oper} {d : Option Tmp} {x : Operand} {ty : TypeId} {ps : String} {af : Array Edge} {a : Act} {w : World} {Q : Exit → Act → World → Prop} {n : Int} (hx : a.eval x = .int .u8 n)
    (h : ∀ w', ArrAt w' w.heap.size .u8 5 1 (fun _ => n) → Below w.heap.size w w' → wpList Tryd.prog ops Q rest (a.put d (.slice (some ⟨w.heap.size, 0, none⟩) 1 1)) w') :
    wpList Tryd.prog ops Q ({ dst := d, op := .buildSlice 41 1 #[(0, x)], type := ty, pos := ps, after := af, guard := none } :: rest) a w := by
  have hr := run_bsB n w
  refine wl_act rfl ?_
  unfold Oper.wp execOp
  simp only [List.map_toArray, List.map_cons, List.map_nil, hx, Sem.run_bind, hr, Result.andThen_ok, Sem.run_pure, Oper.upon]
  exact h _ (heap_alloc_new w _) ((Below.refl _ _).alloc (Nat.le_refl _) _)
end Go.Proofs.YtcefoonflpofgaaDoor
