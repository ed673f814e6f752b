/-
  Own text. The walk of the law AeadTurned.
-/
import Derived.Test.YtfkgfojofdachaaW5
namespace Go.Proofs.Ytfkgfojofdachaa
open Go.RowKit Go.Proofs
set_option maxRecDepth 100000
theorem enterSeal (args : Array Value) (w : World) : (callFunc 8 args).run Try.prog w = .ok (.enter 8 args) w := by kernel_rfl
theorem exec_neq8T {a : Act} {o : Oper} {w : World} {x y : Operand} (ho : o.op = .binOp .neq 5 x y 5) {m n : Int} (hx : a.eval x = .int .u8 m) (hy : a.eval y = .int .u8 n) (e : m ≠ n) : (execOp a.eval o).run Try.prog w = .ok (.value (.bool true)) w := exec_bin2 ho hx hy rfl (by simp [go_sem, e])
theorem exec_eqSx {a : Act} {o : Oper} {w : World} {x y : Operand} (ho : o.op = .binOp .eql 9 x y 9) {s t : ByteArray} (hx : a.eval x = .string s) (hy : a.eval y = .string t) (e : s = t) : (execOp a.eval o).run Try.prog w = .ok (.value (.bool true)) w := exec_eqS ho hx (e ▸ hy)
set_option maxHeartbeats 8000000 in
theorem turned_walk (key nonce : Nat → Int) (text beside : ByteArray) (at_ to : Int) (w : World) (hk : Byts 32 key) (hn : Byts 12 nonce) (ht : text.size ≤ 140737488351232) (hbs : beside.size ≤ 281474976710656) (ha : -9223372036854775808 ≤ at_ ∧ at_ ≤ 9223372036854775807) (hto : 0 ≤ to ∧ to < 256) :
    Calls Try.prog 6 #[.agg (WA .u8 32 key), .agg (WA .u8 12 nonce), .string text, .string beside, .int .i64 at_, .int .u8 to] w fun e w' => e = .returned (.bool true) ∧ Below w.heap.size w w' := by
  have g0 : ArrAt ((w.alloc (.cells (WA .u8 32 key) 22)).alloc (.cells (WA .u8 12 nonce) 24)) w.heap.size .u8 22 32 key := heap_alloc2_old w _ _
  have g1 : ArrAt ((w.alloc (.cells (WA .u8 32 key) 22)).alloc (.cells (WA .u8 12 nonce) 24)) (w.heap.size + 1) .u8 24 12 nonce := heap_alloc2_new w _ _
  have hB : Below w.heap.size w ((w.alloc (.cells (WA .u8 32 key) 22)).alloc (.cells (WA .u8 12 nonce) 24)) := ((Below.refl _ w).alloc (by simp) _).alloc (by simp) _
  have hA := boxT_size key nonce text beside
  obtain ⟨p, hpd⟩ : ∃ p, p = pkN at_ ((text.size : Int) + 16) := ⟨_, rfl⟩
  have hp : p < (boxT key nonce text beside).size := by have := pkN_lt at_ ((text.size : Int) + 16) (by omega); omega
  have hS : ∀ w, Calls Try.prog 8 #[.agg (WA .u8 32 key), .agg (WA .u8 12 nonce), .string text, .string beside] w fun e w' => e = .returned (.string (boxT key nonce text beside)) ∧ Below w.heap.size w w' := fun w => Seal_run key nonce text beside w hk hn (by omega) hbs
  have hO0 := fun w => Open_run key nonce (turnT (boxT key nonce text beside) p to) beside w hk hn (by rw [turnT_size]; omega) hbs
  have hPK : ∀ w, Calls Try.prog 17 #[.int .i64 at_, .int .i64 ((text.size : Int) + 16)] w fun e w' => e = .returned (.int .i64 (p : Int)) ∧ Below w.heap.size w w' := fun w => by
    rw [hpd]
    exact pick_run at_ _ w ha.1 ha.2 (by omega) (by omega)
  have hzero : to = 0 → openT key nonce (turnT (boxT key nonce text beside) p to) beside = (text, 0) := fun h => by
    rw [h, turnT_0, open_box]
  have hxx : bits .xor .u8 (txt (boxT key nonce text beside) p) to = xorw (txt (boxT key nonce text beside) p) to := by
    rw [u8_xor _ _ (txt_b _ _).1 (txt_b _ _).2 (by omega) (by omega)]
    rfl
  have hyb : ∀ j, j < (boxT key nonce text beside).size → 0 ≤ upd (txt (boxT key nonce text beside)) p (xorw (txt (boxT key nonce text beside) p) to) j ∧ upd (txt (boxT key nonce text beside)) p (xorw (txt (boxT key nonce text beside) p) to) j < 256 := fun j _ => by
    unfold upd
    split
    · exact xorw_b (txt_b _ _) hto
    · exact txt_b _ j
  have hbx : mkS (boxT key nonce text beside).size (upd (txt (boxT key nonce text beside)) p (xorw (txt (boxT key nonce text beside) p) to)) = turnT (boxT key nonce text beside) p to := rfl
  have hbs2 : (turnT (boxT key nonce text beside) p to).size = text.size + 16 := by rw [turnT_size, hA]
  have hAI : ¬ (text.size : Int) + 16 = 0 := by omega
  by_cases h0 : (openT key nonce (turnT (boxT key nonce text beside) p to) beside).2 = 0
  · have hb0 := box_open key nonce _ beside h0
    obtain ⟨x1, hx1⟩ : ∃ x1, openT key nonce (turnT (boxT key nonce text beside) p to) beside = (x1, 0) := ⟨_, Prod.ext rfl h0⟩
    rw [hx1] at hO0 hzero hb0
    have hxs : x1.size ≤ 140737488355328 := by
      have := boxT_size key nonce x1 beside
      rw [hb0] at this
      omega
    have HS2 : Hid (∀ w, Calls Try.prog 8 #[.agg (WA .u8 32 key), .agg (WA .u8 12 nonce), .string x1, .string beside] w fun e w' => e = .returned (.string (turnT (boxT key nonce text beside) p to)) ∧ Below w.heap.size w w') := Hid.mk (fun w => by
      have h := Seal_run key nonce x1 beside w hk hn hxs hbs
      rw [hb0] at h
      exact h)
    have hO : ∀ w, Calls Try.prog 12 #[.agg (WA .u8 32 key), .agg (WA .u8 12 nonce), .string (turnT (boxT key nonce text beside) p to), .string beside] w fun e w' => e = .returned (.tuple #[.string x1, .int .i64 0]) ∧ Below w.heap.size w w' := hO0
    clear hO0 hb0 h0 hx1 hbs2 hxs hk hn
    generalize turnT (boxT key nonce text beside) p to = bx at *
    generalize boxT key nonce text beside = A at *
    generalize xorw (txt A p) to = y at *
    by_cases hT : to = 0
    · have HXT : Hid (x1 = text) := Hid.mk (congrArg Prod.fst (hzero hT))
      have HT0 := Hid.mk hT
      clear hzero hto hpd hT
      go_enter Try.func6, Try.ntmps6
      go_wp2_with (first | (refine ld_arrG isArr32 g0 (by rfl) (by rfl) ?_) | (refine ld_arrG isArr12 g1 (by rfl) (by rfl) ?_))
      refine (hS _).mono ?_
      rintro e v1 ⟨rfl, hb⟩
      replace g0 := g0.kept hb
      replace g1 := g1.kept hb
      replace hB := hB.trans (hb.mono hB.size)
    
      clear hb
      obtain ⟨cp, v2, hcv, hR, hb⟩ := conv_str A v1
      have hz0 := g0.lt
      have hz1 := g1.lt
      have hz : w.heap.size ≤ v1.heap.size := hB.size
      replace g0 := g0.kept hb
      replace g1 := g1.kept hb
      replace hB := hB.trans (hb.mono hB.size)
      clear hb hS
      go_wp2_with fail
      clear hcv
      refine (hPK _).mono ?_
      rintro e v3 ⟨rfl, hb⟩
      replace g0 := g0.kept hb
      replace g1 := g1.kept hb
      replace hB := hB.trans (hb.mono hB.size)
      replace hR := hR.below hb hR.lt
      clear hb
      clear hPK
      have c0 := hR.cell p hp
      have f0 := hR.free p hp
      have hR2 := hR.set p y
      have HCC : Hid (∀ u, RowAt u v1.heap.size .u8 5 A.size (upd (txt A) p y) → (convert 25 9 (.slice (some ⟨v1.heap.size, 0, none⟩) (text.size + 16) cp)).run Try.prog u = .ok (.string bx) u) := Hid.mk (fun u hu => by
        have h := str_back (text.size + 16) v1.heap.size cp u A.size (upd (txt A) p y) hu hyb hA.symm
        rw [hbx] at h
        exact h)
      have hcv := HCC.out _ hR2
      replace g0 := g0.only (only_set (w := v3) (g := v1.heap.size) (i := p) (v := .int .u8 y)) (by omega)
      replace g1 := g1.only (only_set (w := v3) (g := v1.heap.size) (i := p) (v := .int .u8 y)) (by omega)
      replace hB := Below.setCell (p := ⟨v1.heap.size, p, none⟩) hB (by show w.heap.size ≤ v1.heap.size; omega) (.int .u8 y)
      clear hR hyb hbx
      have HRR := Hid.mk hR2
      clear hR2
      generalize upd (txt A) p y = ut at *
      generalize txt A p = z at *
      go_wp2_with (first | (refine ld_arrG isArr32 g0 (by rfl) (by rfl) ?_) | (refine ld_arrG isArr12 g1 (by rfl) (by rfl) ?_))
      clear c0 f0 hxx hcv
      have hR := HRR.out
      clear HRR
      refine (hO _).mono ?_
      rintro e v4 ⟨rfl, hb⟩
      replace g0 := g0.kept hb
      replace g1 := g1.kept hb
      replace hB := hB.trans (hb.mono hB.size)
      replace hR := hR.below hb hR.lt
      clear hb
      clear hO
      go_wp2_with fail
      obtain ⟨bR, hbR⟩ : ∃ bR, bR = v1.heap.size := ⟨_, rfl⟩
      rw [← hbR] at hR HCC ⊢
      refine wp_gen (fun v => ArrAt v w.heap.size .u8 22 32 key ∧ ArrAt v (w.heap.size + 1) .u8 24 12 nonce ∧ RowAt v bR .u8 5 A.size ut ∧ Below w.heap.size w v) ⟨g0, g1, hR, hB⟩ ?_
      clear g0 g1 hB hR
      rintro v0 ⟨g0, g1, hR, hB⟩
      have HG0 : Hid (∀ u, Below v0.heap.size v0 u → ArrAt u w.heap.size .u8 22 32 key) := Hid.mk (fun u hu => g0.kept hu)
      have HG1 : Hid (∀ u, Below v0.heap.size v0 u → ArrAt u (w.heap.size + 1) .u8 24 12 nonce) := Hid.mk (fun u hu => g1.kept hu)
      have HCV : Hid (∀ u, Below v0.heap.size v0 u → (convert 25 9 (.slice (some ⟨bR, 0, none⟩) (text.size + 16) cp)).run Try.prog u = .ok (.string bx) u) := Hid.mk (fun u hu => HCC.out u (hR.below hu hR.lt))
      refine wp_region3 (Below v0.heap.size v0) v0.heap.size
        ([] : List (Nat × Cont))
        [kv (.agg (WA .u8 32 key)), kv (.agg (WA .u8 12 nonce)), kv (.string x1), kv (.string beside), kv (.string bx), kv (.slice (some ⟨bR, 0, none⟩) (text.size + 16) cp), kv (.string bx), kv (.bool true), kv (.bool true), kv (.int .u8 to), kv (.bool false), kv (.bool false), kv (.string x1), kv (.string text), kv (.bool true), kv (.bool true), kv (.bool true), kv (.bool true), kv (.bool true), kv (.bool true), kv (.bool true)]
        [.none, .none, .none, .none, .none, .none, .none, .none, .none, .none, .none, .none, .none, .none, .none, .none, .none, .none, .none, .none, .none]
        [some 50, some 51, some 52, some 53, some 54, some 55, some 56, some 57, some 58, some 59, some 60, some 61, some 62, some 63, some 64, some 65, some 66, some 67, some 68, some 69, some 12]
        [(6, .pointer (some ⟨w.heap.size, 0, none⟩)), (7, .pointer (some ⟨(w.heap.size + 1), 0, none⟩)), (15, .string x1), (3, .string beside), (13, .slice (some ⟨bR, 0, none⟩) (text.size + 16) cp), (5, .int .u8 to), (2, .string text)]
        [[], [], [], [], [.slot 0, .slot 1, .slot 2, .slot 3], [], [.slot 5], [.slot 4, .slot 6], [.slot 7], [.slot 8], [.slot 8, .slot 9], [.slot 8, .slot 10], [.slot 11], [.slot 11], [.slot 11, .slot 12, .slot 13], [.slot 8, .slot 11, .slot 14], [.slot 8, .slot 15], [.slot 16], [.slot 17], [.slot 17, .slot 18], [.slot 19]]
        [.slot 20] [50, 51, 52, 53, 54, 55, 56, 57, 58, 59, 60, 61, 62, 63, 64, 65, 66, 67, 68, 69, 12]
        rfl (by kernel_rfl) ⟨rfl, rfl, rfl, rfl, rfl, rfl, rfl, trivial⟩ (Below.refl _ v0).drew (Nat.le_refl _) trivial trivial (below_G (Nat.le_refl _) trivial)
        ⟨
          -- 0
          (fun Q aq ww own hS hBg fr kn => .inl ⟨trivial, fun K hK => wp_value (look_arr rfl isArr32 (HG0.out ww hS) fr.1) (hK _ _ ⟨Touch.refl _ _, rfl⟩)⟩),
          -- 1
          (fun Q aq ww own hS hBg fr kn => .inl ⟨trivial, fun K hK => wp_value (look_arr rfl isArr12 (HG1.out ww hS) fr.2.1) (hK _ _ ⟨Touch.refl _ _, rfl⟩)⟩),
          -- 2
          (fun Q aq ww own hS hBg fr kn => .inl ⟨trivial, fun K hK => wp_value (exec_move rfl fr.2.2.1) (hK _ _ ⟨Touch.refl _ _, rfl⟩)⟩),
          -- 3
          (fun Q aq ww own hS hBg fr kn => .inl ⟨trivial, fun K hK => wp_value (exec_move rfl fr.2.2.2.1) (hK _ _ ⟨Touch.refl _ _, rfl⟩)⟩),
          -- 4
          (fun Q aq ww own hS hBg fr kn => .inl ⟨trivial, fun K hK => stepc enterSeal rfl (args4 kn.1 kn.2.1 kn.2.2.1 kn.2.2.2.1) (HS2.out ww) (fun w' hb => hK _ _ ⟨touch_below hb, rfl⟩)⟩),
          -- 5
          (fun Q aq ww own hS hBg fr kn => .inl ⟨trivial, fun K hK => wp_value (exec_move rfl fr.2.2.2.2.1) (hK _ _ ⟨Touch.refl _ _, rfl⟩)⟩),
          -- 6
          (fun Q aq ww own hS hBg fr kn => .inl ⟨trivial, fun K hK => wp_value (exec_conv rfl kn.1 (HCV.out ww hS)) (hK _ _ ⟨Touch.refl _ _, rfl⟩)⟩),
          -- 7
          (fun Q aq ww own hS hBg fr kn => .inl ⟨trivial, fun K hK => wp_value (exec_eqS rfl kn.1 kn.2.1) (hK _ _ ⟨Touch.refl _ _, rfl⟩)⟩),
          -- 8
          (fun Q aq ww own hS hBg fr kn => .inl ⟨trivial, fun K hK => wp_value (exec_move rfl kn.1) (hK _ _ ⟨Touch.refl _ _, rfl⟩)⟩),
          -- 9
          (fun Q aq ww own hS hBg fr kn => .inl ⟨kn.1, fun K hK => wp_value (exec_move rfl fr.2.2.2.2.2.1) (hK _ _ ⟨Touch.refl _ _, rfl⟩)⟩),
          -- 10
          (fun Q aq ww own hS hBg fr kn => .inl ⟨kn.1, fun K hK => wp_value (exec_neq8 rfl kn.2.1 rfl HT0.out) (hK _ _ ⟨Touch.refl _ _, rfl⟩)⟩),
          -- 11
          (fun Q aq ww own hS hBg fr kn => .inl ⟨kn.1, fun K hK => wp_value (exec_move rfl kn.2.1) (hK _ _ ⟨Touch.refl _ _, rfl⟩)⟩),
          -- 12
          (fun Q aq ww own hS hBg fr kn => .inl ⟨kn.1, fun K hK => wp_value (exec_move rfl fr.2.2.1) (hK _ _ ⟨Touch.refl _ _, rfl⟩)⟩),
          -- 13
          (fun Q aq ww own hS hBg fr kn => .inl ⟨kn.1, fun K hK => wp_value (exec_move rfl fr.2.2.2.2.2.2.1) (hK _ _ ⟨Touch.refl _ _, rfl⟩)⟩),
          -- 14
          (fun Q aq ww own hS hBg fr kn => .inl ⟨kn.1, fun K hK => wp_value (exec_eqSx rfl kn.2.1 kn.2.2.1 HXT.out) (hK _ _ ⟨Touch.refl _ _, rfl⟩)⟩),
          -- 15
          (fun Q aq ww own hS hBg fr kn => .inl ⟨kn.1, fun K hK => wp_value (exec_pickF rfl kn.2.1 kn.2.2.1) (hK _ _ ⟨Touch.refl _ _, rfl⟩)⟩),
          -- 16
          (fun Q aq ww own hS hBg fr kn => .inl ⟨trivial, fun K hK => wp_value (exec_pick rfl kn.1 kn.2.1) (hK _ _ ⟨Touch.refl _ _, rfl⟩)⟩),
          -- 17
          (fun Q aq ww own hS hBg fr kn => .inl ⟨trivial, fun K hK => wp_value (exec_move rfl kn.1) (hK _ _ ⟨Touch.refl _ _, rfl⟩)⟩),
          -- 18
          (fun Q aq ww own hS hBg fr kn => .inl ⟨kn.1, fun K hK => stepc enterAwake rfl (args0) (awake_run ww) (fun w' hb => hK _ _ ⟨touch_below hb, rfl⟩)⟩),
          -- 19
          (fun Q aq ww own hS hBg fr kn => .inl ⟨trivial, fun K hK => wp_value (exec_pick rfl kn.1 kn.2.1) (hK _ _ ⟨Touch.refl _ _, rfl⟩)⟩),
          -- 20
          (fun Q aq ww own hS hBg fr kn => .inl ⟨trivial, fun K hK => wp_value (exec_assign rfl kn.1) (hK _ _ ⟨Touch.refl _ _, rfl⟩)⟩),
          trivial⟩ ?_
      intro vs own v5 hB5 hs5 kn inj
      clear inj hs5
      replace hB := hB.trans (hB5.mono hB.size)
      have e12 : vs 12 = .bool true := kn.1
      clear kn hB5 HG0 HG1 HCV HCC g0 g1 hR
      simp only [putAll, Act.put, List.setIfInBounds_toArray, List.set_cons_zero, List.set_cons_succ, e12]
      go_wp2_with fail
      go_ret
      exact ⟨rfl, hB⟩
    · have HT0 : Hid (to ≠ 0) := Hid.mk hT
      clear hzero hto hpd hT
      go_enter Try.func6, Try.ntmps6
      go_wp2_with (first | (refine ld_arrG isArr32 g0 (by rfl) (by rfl) ?_) | (refine ld_arrG isArr12 g1 (by rfl) (by rfl) ?_))
      refine (hS _).mono ?_
      rintro e v1 ⟨rfl, hb⟩
      replace g0 := g0.kept hb
      replace g1 := g1.kept hb
      replace hB := hB.trans (hb.mono hB.size)
    
      clear hb
      obtain ⟨cp, v2, hcv, hR, hb⟩ := conv_str A v1
      have hz0 := g0.lt
      have hz1 := g1.lt
      have hz : w.heap.size ≤ v1.heap.size := hB.size
      replace g0 := g0.kept hb
      replace g1 := g1.kept hb
      replace hB := hB.trans (hb.mono hB.size)
      clear hb hS
      go_wp2_with fail
      clear hcv
      refine (hPK _).mono ?_
      rintro e v3 ⟨rfl, hb⟩
      replace g0 := g0.kept hb
      replace g1 := g1.kept hb
      replace hB := hB.trans (hb.mono hB.size)
      replace hR := hR.below hb hR.lt
      clear hb
      clear hPK
      have c0 := hR.cell p hp
      have f0 := hR.free p hp
      have hR2 := hR.set p y
      have HCC : Hid (∀ u, RowAt u v1.heap.size .u8 5 A.size (upd (txt A) p y) → (convert 25 9 (.slice (some ⟨v1.heap.size, 0, none⟩) (text.size + 16) cp)).run Try.prog u = .ok (.string bx) u) := Hid.mk (fun u hu => by
        have h := str_back (text.size + 16) v1.heap.size cp u A.size (upd (txt A) p y) hu hyb hA.symm
        rw [hbx] at h
        exact h)
      have hcv := HCC.out _ hR2
      replace g0 := g0.only (only_set (w := v3) (g := v1.heap.size) (i := p) (v := .int .u8 y)) (by omega)
      replace g1 := g1.only (only_set (w := v3) (g := v1.heap.size) (i := p) (v := .int .u8 y)) (by omega)
      replace hB := Below.setCell (p := ⟨v1.heap.size, p, none⟩) hB (by show w.heap.size ≤ v1.heap.size; omega) (.int .u8 y)
      clear hR hyb hbx
      have HRR := Hid.mk hR2
      clear hR2
      generalize upd (txt A) p y = ut at *
      generalize txt A p = z at *
      go_wp2_with (first | (refine ld_arrG isArr32 g0 (by rfl) (by rfl) ?_) | (refine ld_arrG isArr12 g1 (by rfl) (by rfl) ?_))
      clear c0 f0 hxx hcv
      have hR := HRR.out
      clear HRR
      refine (hO _).mono ?_
      rintro e v4 ⟨rfl, hb⟩
      replace g0 := g0.kept hb
      replace g1 := g1.kept hb
      replace hB := hB.trans (hb.mono hB.size)
      replace hR := hR.below hb hR.lt
      clear hb
      clear hO
      go_wp2_with fail
      obtain ⟨bR, hbR⟩ : ∃ bR, bR = v1.heap.size := ⟨_, rfl⟩
      rw [← hbR] at hR HCC ⊢
      refine wp_gen (fun v => ArrAt v w.heap.size .u8 22 32 key ∧ ArrAt v (w.heap.size + 1) .u8 24 12 nonce ∧ RowAt v bR .u8 5 A.size ut ∧ Below w.heap.size w v) ⟨g0, g1, hR, hB⟩ ?_
      clear g0 g1 hB hR
      rintro v0 ⟨g0, g1, hR, hB⟩
      have HG0 : Hid (∀ u, Below v0.heap.size v0 u → ArrAt u w.heap.size .u8 22 32 key) := Hid.mk (fun u hu => g0.kept hu)
      have HG1 : Hid (∀ u, Below v0.heap.size v0 u → ArrAt u (w.heap.size + 1) .u8 24 12 nonce) := Hid.mk (fun u hu => g1.kept hu)
      have HCV : Hid (∀ u, Below v0.heap.size v0 u → (convert 25 9 (.slice (some ⟨bR, 0, none⟩) (text.size + 16) cp)).run Try.prog u = .ok (.string bx) u) := Hid.mk (fun u hu => HCC.out u (hR.below hu hR.lt))
      refine wp_region3 (Below v0.heap.size v0) v0.heap.size
        ([] : List (Nat × Cont))
        [kv (.agg (WA .u8 32 key)), kv (.agg (WA .u8 12 nonce)), kv (.string x1), kv (.string beside), kv (.string bx), kv (.slice (some ⟨bR, 0, none⟩) (text.size + 16) cp), kv (.string bx), kv (.bool true), kv (.bool true), kv (.int .u8 to), kv (.bool true), kv (.bool true), .val fun _ => True, .val fun _ => True, .val fun _ => True, kv (.bool true), kv (.bool true), kv (.bool true), kv (.bool true), kv (.bool true), kv (.bool true)]
        [.none, .none, .none, .none, .none, .none, .none, .none, .none, .none, .none, .none, .none, .none, .none, .none, .none, .none, .none, .none, .none]
        [some 50, some 51, some 52, some 53, some 54, some 55, some 56, some 57, some 58, some 59, some 60, some 61, some 62, some 63, some 64, some 65, some 66, some 67, some 68, some 69, some 12]
        [(6, .pointer (some ⟨w.heap.size, 0, none⟩)), (7, .pointer (some ⟨(w.heap.size + 1), 0, none⟩)), (15, .string x1), (3, .string beside), (13, .slice (some ⟨bR, 0, none⟩) (text.size + 16) cp), (5, .int .u8 to), (2, .string text)]
        [[], [], [], [], [.slot 0, .slot 1, .slot 2, .slot 3], [], [.slot 5], [.slot 4, .slot 6], [.slot 7], [.slot 8], [.slot 8, .slot 9], [.slot 8, .slot 10], [.slot 11], [.slot 11], [.slot 11], [.slot 8, .slot 11], [.slot 8, .slot 15], [.slot 16], [.slot 17], [.slot 17, .slot 18], [.slot 19]]
        [.slot 20] [50, 51, 52, 53, 54, 55, 56, 57, 58, 59, 60, 61, 62, 63, 64, 65, 66, 67, 68, 69, 12]
        rfl (by kernel_rfl) ⟨rfl, rfl, rfl, rfl, rfl, rfl, rfl, trivial⟩ (Below.refl _ v0).drew (Nat.le_refl _) trivial trivial (below_G (Nat.le_refl _) trivial)
        ⟨
          -- 0
          (fun Q aq ww own hS hBg fr kn => .inl ⟨trivial, fun K hK => wp_value (look_arr rfl isArr32 (HG0.out ww hS) fr.1) (hK _ _ ⟨Touch.refl _ _, rfl⟩)⟩),
          -- 1
          (fun Q aq ww own hS hBg fr kn => .inl ⟨trivial, fun K hK => wp_value (look_arr rfl isArr12 (HG1.out ww hS) fr.2.1) (hK _ _ ⟨Touch.refl _ _, rfl⟩)⟩),
          -- 2
          (fun Q aq ww own hS hBg fr kn => .inl ⟨trivial, fun K hK => wp_value (exec_move rfl fr.2.2.1) (hK _ _ ⟨Touch.refl _ _, rfl⟩)⟩),
          -- 3
          (fun Q aq ww own hS hBg fr kn => .inl ⟨trivial, fun K hK => wp_value (exec_move rfl fr.2.2.2.1) (hK _ _ ⟨Touch.refl _ _, rfl⟩)⟩),
          -- 4
          (fun Q aq ww own hS hBg fr kn => .inl ⟨trivial, fun K hK => stepc enterSeal rfl (args4 kn.1 kn.2.1 kn.2.2.1 kn.2.2.2.1) (HS2.out ww) (fun w' hb => hK _ _ ⟨touch_below hb, rfl⟩)⟩),
          -- 5
          (fun Q aq ww own hS hBg fr kn => .inl ⟨trivial, fun K hK => wp_value (exec_move rfl fr.2.2.2.2.1) (hK _ _ ⟨Touch.refl _ _, rfl⟩)⟩),
          -- 6
          (fun Q aq ww own hS hBg fr kn => .inl ⟨trivial, fun K hK => wp_value (exec_conv rfl kn.1 (HCV.out ww hS)) (hK _ _ ⟨Touch.refl _ _, rfl⟩)⟩),
          -- 7
          (fun Q aq ww own hS hBg fr kn => .inl ⟨trivial, fun K hK => wp_value (exec_eqS rfl kn.1 kn.2.1) (hK _ _ ⟨Touch.refl _ _, rfl⟩)⟩),
          -- 8
          (fun Q aq ww own hS hBg fr kn => .inl ⟨trivial, fun K hK => wp_value (exec_move rfl kn.1) (hK _ _ ⟨Touch.refl _ _, rfl⟩)⟩),
          -- 9
          (fun Q aq ww own hS hBg fr kn => .inl ⟨kn.1, fun K hK => wp_value (exec_move rfl fr.2.2.2.2.2.1) (hK _ _ ⟨Touch.refl _ _, rfl⟩)⟩),
          -- 10
          (fun Q aq ww own hS hBg fr kn => .inl ⟨kn.1, fun K hK => wp_value (exec_neq8T rfl kn.2.1 rfl HT0.out) (hK _ _ ⟨Touch.refl _ _, rfl⟩)⟩),
          -- 11
          (fun Q aq ww own hS hBg fr kn => .inl ⟨kn.1, fun K hK => wp_value (exec_move rfl kn.2.1) (hK _ _ ⟨Touch.refl _ _, rfl⟩)⟩),
          -- 12
          (fun Q aq ww own hS hBg fr kn => .inr ⟨.inl kn.1, Touch.refl _ _, trivial⟩),
          -- 13
          (fun Q aq ww own hS hBg fr kn => .inr ⟨.inl kn.1, Touch.refl _ _, trivial⟩),
          -- 14
          (fun Q aq ww own hS hBg fr kn => .inr ⟨.inl kn.1, Touch.refl _ _, trivial⟩),
          -- 15
          (fun Q aq ww own hS hBg fr kn => .inl ⟨kn.1, fun K hK => wp_value (exec_pick (v := .bool true) rfl kn.2.1 rfl) (hK _ _ ⟨Touch.refl _ _, rfl⟩)⟩),
          -- 16
          (fun Q aq ww own hS hBg fr kn => .inl ⟨trivial, fun K hK => wp_value (exec_pick rfl kn.1 kn.2.1) (hK _ _ ⟨Touch.refl _ _, rfl⟩)⟩),
          -- 17
          (fun Q aq ww own hS hBg fr kn => .inl ⟨trivial, fun K hK => wp_value (exec_move rfl kn.1) (hK _ _ ⟨Touch.refl _ _, rfl⟩)⟩),
          -- 18
          (fun Q aq ww own hS hBg fr kn => .inl ⟨kn.1, fun K hK => stepc enterAwake rfl (args0) (awake_run ww) (fun w' hb => hK _ _ ⟨touch_below hb, rfl⟩)⟩),
          -- 19
          (fun Q aq ww own hS hBg fr kn => .inl ⟨trivial, fun K hK => wp_value (exec_pick rfl kn.1 kn.2.1) (hK _ _ ⟨Touch.refl _ _, rfl⟩)⟩),
          -- 20
          (fun Q aq ww own hS hBg fr kn => .inl ⟨trivial, fun K hK => wp_value (exec_assign rfl kn.1) (hK _ _ ⟨Touch.refl _ _, rfl⟩)⟩),
          trivial⟩ ?_
      intro vs own v5 hB5 hs5 kn inj
      clear inj hs5
      replace hB := hB.trans (hB5.mono hB.size)
      have e12 : vs 12 = .bool true := kn.1
      clear kn hB5 HG0 HG1 HCV HCC g0 g1 hR
      simp only [putAll, Act.put, List.setIfInBounds_toArray, List.set_cons_zero, List.set_cons_succ, e12]
      go_wp2_with fail
      go_ret
      exact ⟨rfl, hB⟩
  · have hT0 : to ≠ 0 := fun h => h0 (by rw [hzero h])
    have hx1 := open_13 key nonce _ beside h0
    rw [hx1] at hO0
    have hO : ∀ w, Calls Try.prog 12 #[.agg (WA .u8 32 key), .agg (WA .u8 12 nonce), .string (turnT (boxT key nonce text beside) p to), .string beside] w fun e w' => e = .returned (.tuple #[.string ByteArray.empty, .int .i64 13]) ∧ Below w.heap.size w w' := hO0
    clear hO0 hzero h0 hx1 hbs2 hk hn
    generalize turnT (boxT key nonce text beside) p to = bx at *
    generalize boxT key nonce text beside = A at *
    generalize xorw (txt A p) to = y at *
    clear hto hpd
    go_enter Try.func6, Try.ntmps6
    go_wp2_with (first | (refine ld_arrG isArr32 g0 (by rfl) (by rfl) ?_) | (refine ld_arrG isArr12 g1 (by rfl) (by rfl) ?_))
    refine (hS _).mono ?_
    rintro e v1 ⟨rfl, hb⟩
    replace g0 := g0.kept hb
    replace g1 := g1.kept hb
    replace hB := hB.trans (hb.mono hB.size)
  
    clear hb
    obtain ⟨cp, v2, hcv, hR, hb⟩ := conv_str A v1
    have hz0 := g0.lt
    have hz1 := g1.lt
    have hz : w.heap.size ≤ v1.heap.size := hB.size
    replace g0 := g0.kept hb
    replace g1 := g1.kept hb
    replace hB := hB.trans (hb.mono hB.size)
    clear hb hS
    go_wp2_with fail
    clear hcv
    refine (hPK _).mono ?_
    rintro e v3 ⟨rfl, hb⟩
    replace g0 := g0.kept hb
    replace g1 := g1.kept hb
    replace hB := hB.trans (hb.mono hB.size)
    replace hR := hR.below hb hR.lt
    clear hb
    clear hPK
    have c0 := hR.cell p hp
    have f0 := hR.free p hp
    have hR2 := hR.set p y
    have HCC : Hid (∀ u, RowAt u v1.heap.size .u8 5 A.size (upd (txt A) p y) → (convert 25 9 (.slice (some ⟨v1.heap.size, 0, none⟩) (text.size + 16) cp)).run Try.prog u = .ok (.string bx) u) := Hid.mk (fun u hu => by
      have h := str_back (text.size + 16) v1.heap.size cp u A.size (upd (txt A) p y) hu hyb hA.symm
      rw [hbx] at h
      exact h)
    have hcv := HCC.out _ hR2
    replace g0 := g0.only (only_set (w := v3) (g := v1.heap.size) (i := p) (v := .int .u8 y)) (by omega)
    replace g1 := g1.only (only_set (w := v3) (g := v1.heap.size) (i := p) (v := .int .u8 y)) (by omega)
    replace hB := Below.setCell (p := ⟨v1.heap.size, p, none⟩) hB (by show w.heap.size ≤ v1.heap.size; omega) (.int .u8 y)
    clear hR hyb hbx
    have HRR := Hid.mk hR2
    clear hR2
    generalize upd (txt A) p y = ut at *
    generalize txt A p = z at *
    go_wp2_with (first | (refine ld_arrG isArr32 g0 (by rfl) (by rfl) ?_) | (refine ld_arrG isArr12 g1 (by rfl) (by rfl) ?_))
    clear c0 f0 hxx hcv
    have hR := HRR.out
    clear HRR
    refine (hO _).mono ?_
    rintro e v4 ⟨rfl, hb⟩
    replace g0 := g0.kept hb
    replace g1 := g1.kept hb
    replace hB := hB.trans (hb.mono hB.size)
    replace hR := hR.below hb hR.lt
    clear hb
    clear hO
    go_wp2_with (first | (refine wl_value (by rfl) (exec_eqS (s := ByteArray.empty) rfl (by rfl) (by rfl)) ?_) | (refine wl_value (by rfl) (exec_eqE (n := 13) rfl (by rfl) (by rfl)) ?_) | (refine wl_value (by rfl) (exec_neq8T rfl (by rfl) (by rfl) hT0) ?_))
    refine (awake_run _).mono ?_
    rintro e v8 ⟨rfl, hb⟩
    replace hB := hB.trans (hb.mono hB.size)
    clear hb g0 g1 hR HCC
    go_wp2_with fail
    go_ret
    exact ⟨rfl, hB⟩
theorem turned_lift (key : Nat → Int) (hk : Byts 32 key) (nonce : Nat → Int) (hn : Byts 12 nonce) (text : ByteArray) (ht : text.data.toList.length ≤ reachBytes) (beside : ByteArray) (hb : beside.data.toList.length ≤ reachBytes) (at_ : Int) (ha : (Lit.int .i64 at_).wf = true) (to : Int) (hto : (Lit.int .u8 to).wf = true) (w : World) :
    Calls Try.prog 6 #[.agg (WA .u8 32 key), .agg (WA .u8 12 nonce), .string text, .string beside, .int .i64 at_, .int .u8 to] w fun e w' => e = .returned (.bool true) ∧ Below w.heap.size w w' :=
  turned_walk key nonce text beside at_ to w hk hn (reach_size ht) (Nat.le_trans (reach_size hb) (by decide)) (by have := bounds_i64 ha; omega) (by have := bounds_u8 hto; omega)
end Go.Proofs.Ytfkgfojofdachaa
