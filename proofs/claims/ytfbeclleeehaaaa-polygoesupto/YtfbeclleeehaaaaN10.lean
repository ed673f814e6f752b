/-
  Own text. What behind of package poly answers: a contract over the translation.
-/
import Derived.Test.YtfbeclleeehaaaaN9
import Derived.Test.YtfbeclleeehaaaaN3
namespace Go.Proofs.Ytfbeclleeehaaaa
open Go.RowKit Go.Proofs
theorem behind_num (Z H : Nat → Int) (n : Nat) (hn : n ≤ 16) : qv (fun i => Z i + nblk H n i) 5 = qv Z 5 + (dval H n + 256 ^ n) := by
  rw [qv_sum Z (nblk H n), nblk_num hn]
set_option maxHeartbeats 4000000 in
set_option maxRecDepth 100000 in
theorem behind_run (b n c : Nat) (R S Z H : Nat → Int) (l : Int) (w : World) (hM : MacAt w b R S Z H l) (hZ : Sm Z) (hR : Dg 67108864 5 R) (hH : Byts 16 H) (hn : n ≤ 16) :
    Calls Try.prog 20 #[.pointer (some ⟨b, 0, none⟩), .slice (some ⟨b, 12, none⟩) n c] w fun e w' => ∃ z, Sm z ∧ (∃ q, (qv Z 5 + (dval H n + 256 ^ n)) * qv R 5 = qv z 5 + P130 * q) ∧ e = .returned (.agg (WA .u64 5 z)) ∧ Below w.heap.size w w' := by
  have g0 : ArrAt (w.alloc (.cells (WA .u64 5 fun _ => 0) 40)) w.heap.size .u64 40 5 (fun _ => 0) := heap_alloc_new w _
  have hB : Below w.heap.size w (w.alloc (.cells (WA .u64 5 fun _ => 0) 40)) := (Below.refl _ w).alloc (Nat.le_refl _) _
  have hlt := hM.lt
  have hHn : Byts n H := fun i hi => hH i (by omega)
  have hd := hZ.dg
  have hbd := nblk_dg hHn hn
  have HN := Hid.mk hn
  have HM : Hid (∀ v, Below w.heap.size w v → MacAt v b R S Z H l) := Hid.mk (fun v hv => hM.below hv hlt)
  have HH := Hid.mk hHn
  have HZ1 : Hid (Dg 4611686018427387904 5 Z) := Hid.mk (fun i hi => by have := hd i hi; omega)
  have HB1 : Hid (Dg 4611686018427387904 5 (nblk H n)) := Hid.mk (fun i hi => by have := hbd i hi; omega)
  have hq := behind_num Z H n hn
  have HTM : Hid (∀ ww : World, Calls Try.prog 22 #[.agg (WA .u64 5 fun i => Z i + nblk H n i), .agg (WA .u64 5 R)] ww fun e w' => ∃ z, Sm z ∧ (∃ q, (qv Z 5 + (dval H n + 256 ^ n)) * qv R 5 = qv z 5 + P130 * q) ∧ e = .returned (.agg (WA .u64 5 z)) ∧ Below ww.heap.size ww w') := Hid.mk (fun ww => by
    rw [← hq]
    exact ptimes_run _ R ww (fun i hi => by have h1 := hd i hi; have h2 := hbd i hi; show 0 ≤ Z i + nblk H n i ∧ Z i + nblk H n i < 268435456; omega) hR)
  clear hM hZ hR hH hHn hd hbd hq
  go_enter Try.func20, Try.ntmps20
  go_wp2_with fail
  refine wp_gen (fun v => ArrAt v w.heap.size .u64 40 5 (fun _ => 0) ∧ Below w.heap.size w v) ⟨g0, hB⟩ ?_
  clear g0 hB
  rintro v2 ⟨g0, hB⟩
  refine wp_region3 (Below w.heap.size w) v2.heap.size
    [(w.heap.size, ⟨isOb (WA .u64 5 fun _ => 0) 40, [(12, fun ob => ∃ z, Sm z ∧ (∃ q, (qv Z 5 + (dval H n + 256 ^ n)) * qv R 5 = qv z 5 + P130 * q) ∧ ob = .cells (WA .u64 5 z) 40 (0, 0))]⟩)]
    [kv (.pointer (some ⟨b, 0, none⟩)), kv (.pointer (some ⟨b, 0, none⟩)), kv (.pointer (some ⟨b, 7, none⟩)), kv (.agg (WA .u64 5 Z)), kv (.slice (some ⟨b, 12, none⟩) n c), kv (.agg (WA .u64 5 (nblk H n))), kv (.agg (WA .u64 5 fun i => Z i + nblk H n i)), kv (.pointer (some ⟨b, 0, none⟩)), kv (.pointer (some ⟨b, 0, none⟩)), kv (.pointer (some ⟨b, 0, none⟩)), kv (.agg (WA .u64 5 R)), .val fun v => ∃ z, Sm z ∧ (∃ q, (qv Z 5 + (dval H n + 256 ^ n)) * qv R 5 = qv z 5 + P130 * q) ∧ v = .agg (WA .u64 5 z), .val fun _ => True]
    [.none, .none, .none, .none, .none, .none, .none, .none, .none, .none, .none, .none, .base 0 1]
    [some 5, some 6, some 7, some 8, some 9, some 10, some 11, some 12, some 13, some 14, some 15, some 16, none]
    [(0, .pointer (some ⟨b, 0, none⟩)), (1, .slice (some ⟨b, 12, none⟩) n c), (4, .pointer (some ⟨w.heap.size, 0, none⟩))]
    [[], [.slot 0], [.slot 1], [.slot 2], [], [.slot 4], [.slot 3, .slot 5], [], [.slot 7], [.slot 8], [.slot 9], [.slot 6, .slot 10], [.base 0 0, .slot 11]]
    [.base 0 1] [5, 6, 7, 8, 9, 10, 11, 12, 13, 14, 15, 16]
    rfl (by kernel_rfl) ⟨rfl, rfl, rfl, trivial⟩ (Below.drew hB) (Nat.le_refl _) ⟨⟨g0.lt, obIn g0⟩, trivial⟩ ⟨trivial, trivial⟩ (below_G hB.size ⟨by omega, trivial⟩)
    ⟨
      -- 0
      (fun Q aq ww own hS hBg fr kn => .inl ⟨trivial, fun K hK => wp_value (exec_move rfl fr.1) (hK _ _ ⟨Touch.refl _ _, rfl⟩)⟩),
      -- 1
      (fun Q aq ww own hS hBg fr kn => .inl ⟨trivial, fun K hK => wp_value (exec_nilc rfl kn.1) (hK _ _ ⟨Touch.refl _ _, rfl⟩)⟩),
      -- 2
      (fun Q aq ww own hS hBg fr kn => .inl ⟨trivial, fun K hK => wp_value (exec_fm (k := 2) rfl kn.1 (by decide)) (hK _ _ ⟨Touch.refl _ _, rfl⟩)⟩),
      -- 3
      (fun Q aq ww own hS hBg fr kn => .inl ⟨trivial, fun K hK => wp_value (exec_ldmid rfl isL kn.1 (HM.out ww hS).sum) (hK _ _ ⟨Touch.refl _ _, rfl⟩)⟩),
      -- 4
      (fun Q aq ww own hS hBg fr kn => .inl ⟨trivial, fun K hK => wp_value (exec_move rfl fr.2.1) (hK _ _ ⟨Touch.refl _ _, rfl⟩)⟩),
      -- 5
      (fun Q aq ww own hS hBg fr kn => .inl ⟨trivial, fun K hK => stepc enterNumber rfl (args1 kn.1) (numberOf_run b 12 n c H ww HN.out HH.out (fun j hj => (HM.out ww hS).rest j (by have := HN.out; omega)) (HM.out ww hS).lt) (fun w' hb => hK _ _ ⟨touch_below hb, rfl⟩)⟩),
      -- 6
      (fun Q aq ww own hS hBg fr kn => .inl ⟨trivial, fun K hK => stepc enterPlus rfl (args2 kn.1 kn.2.1) (pplus_run Z (nblk H n) ww HZ1.out HB1.out) (fun w' hb => hK _ _ ⟨touch_below hb, rfl⟩)⟩),
      -- 7
      (fun Q aq ww own hS hBg fr kn => .inl ⟨trivial, fun K hK => wp_value (exec_move rfl fr.1) (hK _ _ ⟨Touch.refl _ _, rfl⟩)⟩),
      -- 8
      (fun Q aq ww own hS hBg fr kn => .inl ⟨trivial, fun K hK => wp_value (exec_nilc rfl kn.1) (hK _ _ ⟨Touch.refl _ _, rfl⟩)⟩),
      -- 9
      (fun Q aq ww own hS hBg fr kn => .inl ⟨trivial, fun K hK => wp_value (exec_fm (k := 0) rfl kn.1 (by decide)) (hK _ _ ⟨Touch.refl _ _, rfl⟩)⟩),
      -- 10
      (fun Q aq ww own hS hBg fr kn => .inl ⟨trivial, fun K hK => wp_value (exec_ldmid rfl isL kn.1 (HM.out ww hS).r) (hK _ _ ⟨Touch.refl _ _, rfl⟩)⟩),
      -- 11
      (fun Q aq ww own hS hBg fr kn => .inl ⟨trivial, fun K hK => stepp enterTimes rfl (args2 kn.1 kn.2.1) ((HTM.out ww).mono (fun e w' ⟨z, h1, h2, h3, h4⟩ => ⟨_, h3, ⟨z, h1, h2, rfl⟩, h4⟩)) (R := fun v w' => (∃ z, Sm z ∧ (∃ q, (qv Z 5 + (dval H n + 256 ^ n)) * qv R 5 = qv z 5 + P130 * q) ∧ v = .agg (WA .u64 5 z)) ∧ Below ww.heap.size ww w') (fun v w' ⟨h1, h2⟩ => hK _ _ ⟨touch_below h2, h1⟩)⟩),
      -- 12
      (fun Q aq ww own hS hBg fr kn => .inl ⟨trivial, fun K hK => (by obtain ⟨z, h1, h2, h3⟩ := kn.2.1; exact act_arr rfl isL fr.2.2.1 h3 (obAt kn.1) (fun w2 hg ho => hK _ _ ⟨⟨touch_only ho, ⟨_, hg, z, h1, h2, rfl⟩⟩, trivial⟩))⟩),
      trivial⟩ ?_
  intro vs own v3 hB3 hs3 kn inj
  clear inj hs3 g0 hB
  obtain ⟨ob, hob, z, h1, h2, rfl⟩ := kn.1
  have g0 : ArrAt v3 w.heap.size .u64 40 5 z := hob
  clear kn
  simp only [putAll, Act.put, List.setIfInBounds_toArray, List.set_cons_zero, List.set_cons_succ]
  go_wp2_with fail
  exact bodyPost_ret (res_arr Try.results20 isL g0 (by rfl)) rfl ⟨z, h1, h2, rfl, hB3⟩
end Go.Proofs.Ytfbeclleeehaaaa
