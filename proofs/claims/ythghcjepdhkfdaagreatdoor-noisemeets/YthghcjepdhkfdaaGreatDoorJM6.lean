/-
  Own text. What climbed of package curve gives: the ladder's step without its turns.
-/
import Derived.Test.YthghcjepdhkfdaaGreatDoorJM5
import Derived.Test.YthghcjepdhkfdaaGreatDoorJM4
import Derived.Test.YthghcjepdhkfdaaGreatDoorJM2
namespace Go.Proofs.YthghcjepdhkfdaaGreatDoor.Fld
open Go.RowKit Go.Proofs
set_option maxRecDepth 100000
theorem climb_link (x z v w u a1 b1 c1 d1 aa bb ee da cb sm rs nx mm t1 t2 nz nv nw : Int)
  (ha1 : (x + z) % P255 = a1) (hb1 : (x - z) % P255 = b1) (hc1 : (v + w) % P255 = c1) (hd1 : (v - w) % P255 = d1) (haa : a1 * a1 % P255 = aa) (hbb : b1 * b1 % P255 = bb) (hda : d1 * a1 % P255 = da) (hcb : c1 * b1 % P255 = cb) (hee : (aa - bb) % P255 = ee)
  (hsm : (da + cb) % P255 = sm) (hrs : (da - cb) % P255 = rs) (hnx : aa * bb % P255 = nx) (hmm : 121665 % P255 = mm) (ht1 : mm * ee % P255 = t1) (ht2 : (aa + t1) % P255 = t2) (hnz : ee * t2 % P255 = nz) (hnv : sm * sm % P255 = nv) (hnw : u * (rs * rs) % P255 = nw) :
  QI nx nz nv nw = Qd.core kN (ofI u) (QI x z v w) := by
 rw [kN_ofI]
 subst ha1 hb1 hc1 hd1 haa hbb hda hcb hee hsm hrs hnx hmm ht1 ht2 hnz hnv hnw
 simp only [QI, Qd.core, ofI_mod, ofI_mul, ofI_add, ofI_sub]
set_option maxHeartbeats 2000000 in
set_option maxRecDepth 100000 in
theorem climbed_any (x z v w u : Int) (wd : World) (hP : PrimeAt wd) (Nx : N256 x) (Nz : N256 z) (Nv : N256 v) (Nw : N256 w) (Nu : N256 u) :
  Calls Tryz.prog 135 #[.agg (Q4 x z v w), .agg (BA u)] wd fun e w' => (∃ x' z' v' w2, e = .returned (.agg (Q4 x' z' v' w2)) ∧ N256 x' ∧ N256 z' ∧ N256 v' ∧ N256 w2 ∧ QI x' z' v' w2 = Qd.core kN (ofI u) (QI x z v w)) ∧ Below wd.heap.size wd w' := by
 have hz := primeAt_pos hP
 have hzero := zero_rungs
 have HP := Hid.mk hP
 clear hP
 go_enter Tryz.func135, Tryz.ntmps135
 go_wp2_with fail
 refine wp_gen (fun v0 => v0.heap[wd.heap.size]? = some (.cells (Q4 x z v w) 136 (0, 0)) ∧ v0.heap[wd.heap.size + 1]? = some (.cells (BA u) 22 (0, 0)) ∧ v0.heap[wd.heap.size + 1 + 1]? = some (.cells (Q4 0 0 0 0) 136 (0, 0)) ∧ Keep wd v0)
  ⟨heap_a31 wd _ _ _, heap_a32 wd _ _ _, heap_a3 wd _ _ _, keep_below hz ⟨Below.refl _ _, HP.out⟩ (by repeat first | exact Below.refl _ _ | refine Below.alloc ?_ (by simp <;> omega) _)⟩ ?_
 rintro v0 ⟨g2, g3, g4, hK⟩
 have hs : wd.heap.size + 3 ≤ v0.heap.size := by have := heap_lt g4; omega
 clear hzero HP
 obtain ⟨a1, ha1⟩ : ∃ y, (x + z) % P255 = y := ⟨_, rfl⟩
 have Na1 : N256 a1 := ha1 ▸ N256.mod _
 have Ha1 := Hid.mk ha1
 clear ha1
 obtain ⟨b1, hb1⟩ : ∃ y, (x - z) % P255 = y := ⟨_, rfl⟩
 have Nb1 : N256 b1 := hb1 ▸ N256.mod _
 have Hb1 := Hid.mk hb1
 clear hb1
 go_wp2_with fail
 refine wp_region3 (Keep wd) v0.heap.size
  [(wd.heap.size, fixd (Q4 x z v w) 136), ((wd.heap.size + 1), fixd (BA u) 22), ((wd.heap.size + 1 + 1), fixd (Q4 0 0 0 0) 136)]
  [kv (.pointer (some ⟨wd.heap.size, 0 * 32, none⟩)), kv (.agg (BA x)), kv (.pointer (some ⟨wd.heap.size, 1 * 32, none⟩)), kv (.agg (BA z)), ks 2 (BA x ++ BA z) 22, kv (.agg (BA a1)), kv (.pointer (some ⟨wd.heap.size, 0 * 32, none⟩)), kv (.agg (BA x)), kv (.pointer (some ⟨wd.heap.size, 1 * 32, none⟩)), kv (.agg (BA z)), kv (.agg (BA b1)), kp (BA 0) 22 13 (BA a1), kp (BA 0) 22 14 (BA b1), .val fun _ => True, .val fun _ => True]
  [.none, .none, .none, .none, .none, .none, .none, .none, .none, .none, .none, .none, .none, .own 11 1, .own 12 1]
  [some 16, some 17, some 18, some 19, some 20, some 21, some 22, some 23, some 24, some 25, some 26, some 5, some 6, none, none]
  [(2, .pointer (some ⟨wd.heap.size, 0, none⟩))]
  [[], [.slot 0, .base 0 0], [], [.slot 2, .base 0 0], [.slot 1, .slot 3], [.slot 4, .cont 4 0], [], [.slot 6, .base 0 0], [], [.slot 8, .base 0 0], [.slot 7, .slot 9], [], [], [.slot 11, .cont 11 0, .slot 5], [.slot 12, .cont 12 0, .slot 10]]
  [.slot 11, .cont 11 1, .slot 12, .cont 12 1, .base 0 0, .base 1 0, .base 2 0] [16, 17, 18, 19, 20, 21, 22, 23, 24, 25, 26, 5, 6]
  rfl (by kernel_rfl) ⟨rfl, trivial⟩ (keep_drew hK) (Nat.le_refl _) ⟨⟨heap_lt g2, obIn g2⟩, ⟨heap_lt g3, obIn g3⟩, ⟨heap_lt g4, obIn g4⟩, trivial⟩ ⟨⟨trivial, trivial, trivial⟩, ⟨trivial, trivial⟩, trivial, trivial⟩ (keep_G hz (by omega) ⟨(by omega), (by omega), (by omega), trivial⟩)
  ⟨
   (fun Q aq ww own hS hBg fr kn => .inl ⟨trivial, fun K hK => wp_value (exec_fa rfl fr.1 (by decide)) (hK _ _ ⟨Touch.refl _ _, rfl⟩)⟩),
   (fun Q aq ww own hS hBg fr kn => .inl ⟨trivial, fun K hK => wp_value (lookf rfl kn.1 (range_in (obAt kn.2.1) (Q4_0' x z v w))) (hK _ _ ⟨Touch.refl _ _, rfl⟩)⟩),
   (fun Q aq ww own hS hBg fr kn => .inl ⟨trivial, fun K hK => wp_value (exec_fa rfl fr.1 (by decide)) (hK _ _ ⟨Touch.refl _ _, rfl⟩)⟩),
   (fun Q aq ww own hS hBg fr kn => .inl ⟨trivial, fun K hK => wp_value (lookf rfl kn.1 (range_in (obAt kn.2.1) (Q4_1 x z v w))) (hK _ _ ⟨Touch.refl _ _, rfl⟩)⟩),
   (fun Q aq ww own hS hBg fr kn => .inl ⟨trivial, fun K hK => actb2 rfl kn.1 kn.2.1 (fun v hg hb => hK _ _ ⟨touch_below hb, _, Nat.le_refl _, rfl, obIn hg⟩)⟩),
   (fun Q aq ww own hS hBg fr kn => .inl ⟨trivial, fun K hK => stepc1 enterAdd rfl kn.1.1 (add2 x z _ ww Nx Nz (rows2 (obAt kn.2.1)) kn.1.2.2) (fun w' hb => hK _ _ ⟨touch_below hb, (congrArg (fun n => Value.agg (BA n)) Ha1.out)⟩)⟩),
   (fun Q aq ww own hS hBg fr kn => .inl ⟨trivial, fun K hK => wp_value (exec_fa rfl fr.1 (by decide)) (hK _ _ ⟨Touch.refl _ _, rfl⟩)⟩),
   (fun Q aq ww own hS hBg fr kn => .inl ⟨trivial, fun K hK => wp_value (lookf rfl kn.1 (range_in (obAt kn.2.1) (Q4_0' x z v w))) (hK _ _ ⟨Touch.refl _ _, rfl⟩)⟩),
   (fun Q aq ww own hS hBg fr kn => .inl ⟨trivial, fun K hK => wp_value (exec_fa rfl fr.1 (by decide)) (hK _ _ ⟨Touch.refl _ _, rfl⟩)⟩),
   (fun Q aq ww own hS hBg fr kn => .inl ⟨trivial, fun K hK => wp_value (lookf rfl kn.1 (range_in (obAt kn.2.1) (Q4_1 x z v w))) (hK _ _ ⟨Touch.refl _ _, rfl⟩)⟩),
   (fun Q aq ww own hS hBg fr kn => .inl ⟨trivial, fun K hK => stepc2 enterSub rfl kn.1 kn.2.1 (sub_any x z ww hS.2 Nx.1 Nx.2 Nz.1 Nz.2) (fun w' hb => hK _ _ ⟨touch_below hb, (congrArg (fun n => Value.agg (BA n)) Hb1.out)⟩)⟩),
   (fun Q aq ww own hS hBg fr kn => .inl ⟨trivial, fun K hK => act_alloc zero_bytes rfl (fun w' hb hg => hK _ _ ⟨touch_below hb, _, Nat.le_refl _, rfl, obIn hg⟩)⟩),
   (fun Q aq ww own hS hBg fr kn => .inl ⟨trivial, fun K hK => act_alloc zero_bytes rfl (fun w' hb hg => hK _ _ ⟨touch_below hb, _, Nat.le_refl _, rfl, obIn hg⟩)⟩),
   (fun Q aq ww own hS hBg fr kn => .inl ⟨trivial, fun K hK => actbytes rfl kn.1.1 kn.2.2.1 (obAt kn.2.1) (fun w2 hg ho => hK _ _ ⟨touch_only ho, obIn hg, trivial⟩)⟩),
   (fun Q aq ww own hS hBg fr kn => .inl ⟨trivial, fun K hK => actbytes rfl kn.1.1 kn.2.2.1 (obAt kn.2.1) (fun w2 hg ho => hK _ _ ⟨touch_only ho, obIn hg, trivial⟩)⟩),
   trivial⟩ ?_
 intro vs1 own v1 hK1 hs1 kn inj
 clear inj
 have e5 : vs1 5 = .pointer (some ⟨own 11, 0, none⟩) := kn.1.1
 have l5 : v0.heap.size ≤ own 11 := kn.1.2.1
 have g5 := obAt kn.2.1
 have e6 : vs1 6 = .pointer (some ⟨own 12, 0, none⟩) := kn.2.2.1.1
 have l6 : v0.heap.size ≤ own 12 := kn.2.2.1.2.1
 have g6 := obAt kn.2.2.2.1
 have g2_ := obAt kn.2.2.2.2.1
 have g3_ := obAt kn.2.2.2.2.2.1
 have g4_ := obAt kn.2.2.2.2.2.2.1
 clear kn
 generalize own 11 = b5 at *
 generalize own 12 = b6 at *
 simp only [putAll, Act.put, List.setIfInBounds_toArray, List.set_cons_zero, List.set_cons_succ, e5, e6]
 replace l5 : wd.heap.size + 3 ≤ b5 := by omega
 replace l6 : wd.heap.size + 3 ≤ b6 := by omega
 replace hs : wd.heap.size + 3 ≤ v1.heap.size := by omega
 clear e5 e6 g2 g3 g4 hs1
 have g2 := g2_
 clear g2_
 have g3 := g3_
 clear g3_
 have g4 := g4_
 clear g4_
 clear hK
 have hK := hK1
 clear hK1
 clear own
 obtain ⟨c1, hc1⟩ : ∃ y, (v + w) % P255 = y := ⟨_, rfl⟩
 have Nc1 : N256 c1 := hc1 ▸ N256.mod _
 have Hc1 := Hid.mk hc1
 clear hc1
 obtain ⟨d1, hd1⟩ : ∃ y, (v - w) % P255 = y := ⟨_, rfl⟩
 have Nd1 : N256 d1 := hd1 ▸ N256.mod _
 have Hd1 := Hid.mk hd1
 clear hd1
 go_wp2_with fail
 refine wp_region3 (Keep wd) v1.heap.size
  [(wd.heap.size, fixd (Q4 x z v w) 136), ((wd.heap.size + 1), fixd (BA u) 22), ((wd.heap.size + 1 + 1), fixd (Q4 0 0 0 0) 136), (b5, fixd (BA a1) 22), (b6, fixd (BA b1) 22)]
  [kv (.pointer (some ⟨wd.heap.size, 2 * 32, none⟩)), kv (.agg (BA v)), kv (.pointer (some ⟨wd.heap.size, 3 * 32, none⟩)), kv (.agg (BA w)), ks 2 (BA v ++ BA w) 22, kv (.agg (BA c1)), kv (.pointer (some ⟨wd.heap.size, 2 * 32, none⟩)), kv (.agg (BA v)), kv (.pointer (some ⟨wd.heap.size, 3 * 32, none⟩)), kv (.agg (BA w)), kv (.agg (BA d1)), kp (BA 0) 22 13 (BA c1), kp (BA 0) 22 14 (BA d1), .val fun _ => True, .val fun _ => True]
  [.none, .none, .none, .none, .none, .none, .none, .none, .none, .none, .none, .none, .none, .own 11 1, .own 12 1]
  [some 27, some 28, some 29, some 30, some 31, some 32, some 33, some 34, some 35, some 36, some 37, some 7, some 8, none, none]
  [(2, .pointer (some ⟨wd.heap.size, 0, none⟩))]
  [[], [.slot 0, .base 0 0], [], [.slot 2, .base 0 0], [.slot 1, .slot 3], [.slot 4, .cont 4 0], [], [.slot 6, .base 0 0], [], [.slot 8, .base 0 0], [.slot 7, .slot 9], [], [], [.slot 11, .cont 11 0, .slot 5], [.slot 12, .cont 12 0, .slot 10]]
  [.slot 11, .cont 11 1, .slot 12, .cont 12 1, .base 0 0, .base 1 0, .base 2 0, .base 3 0, .base 4 0] [27, 28, 29, 30, 31, 32, 33, 34, 35, 36, 37, 7, 8]
  rfl (by kernel_rfl) ⟨rfl, trivial⟩ (keep_drew hK) (Nat.le_refl _) ⟨⟨heap_lt g2, obIn g2⟩, ⟨heap_lt g3, obIn g3⟩, ⟨heap_lt g4, obIn g4⟩, ⟨heap_lt g5, obIn g5⟩, ⟨heap_lt g6, obIn g6⟩, trivial⟩ ⟨⟨trivial, trivial, trivial, trivial, trivial⟩, ⟨trivial, trivial, trivial, trivial⟩, ⟨trivial, trivial, trivial⟩, ⟨trivial, trivial⟩, trivial, trivial⟩ (keep_G hz (by omega) ⟨(by omega), (by omega), (by omega), (by omega), (by omega), trivial⟩)
  ⟨
   (fun Q aq ww own hS hBg fr kn => .inl ⟨trivial, fun K hK => wp_value (exec_fa rfl fr.1 (by decide)) (hK _ _ ⟨Touch.refl _ _, rfl⟩)⟩),
   (fun Q aq ww own hS hBg fr kn => .inl ⟨trivial, fun K hK => wp_value (lookf rfl kn.1 (range_in (obAt kn.2.1) (Q4_2 x z v w))) (hK _ _ ⟨Touch.refl _ _, rfl⟩)⟩),
   (fun Q aq ww own hS hBg fr kn => .inl ⟨trivial, fun K hK => wp_value (exec_fa rfl fr.1 (by decide)) (hK _ _ ⟨Touch.refl _ _, rfl⟩)⟩),
   (fun Q aq ww own hS hBg fr kn => .inl ⟨trivial, fun K hK => wp_value (lookf rfl kn.1 (range_in (obAt kn.2.1) (Q4_3 x z v w))) (hK _ _ ⟨Touch.refl _ _, rfl⟩)⟩),
   (fun Q aq ww own hS hBg fr kn => .inl ⟨trivial, fun K hK => actb2 rfl kn.1 kn.2.1 (fun v hg hb => hK _ _ ⟨touch_below hb, _, Nat.le_refl _, rfl, obIn hg⟩)⟩),
   (fun Q aq ww own hS hBg fr kn => .inl ⟨trivial, fun K hK => stepc1 enterAdd rfl kn.1.1 (add2 v w _ ww Nv Nw (rows2 (obAt kn.2.1)) kn.1.2.2) (fun w' hb => hK _ _ ⟨touch_below hb, (congrArg (fun n => Value.agg (BA n)) Hc1.out)⟩)⟩),
   (fun Q aq ww own hS hBg fr kn => .inl ⟨trivial, fun K hK => wp_value (exec_fa rfl fr.1 (by decide)) (hK _ _ ⟨Touch.refl _ _, rfl⟩)⟩),
   (fun Q aq ww own hS hBg fr kn => .inl ⟨trivial, fun K hK => wp_value (lookf rfl kn.1 (range_in (obAt kn.2.1) (Q4_2 x z v w))) (hK _ _ ⟨Touch.refl _ _, rfl⟩)⟩),
   (fun Q aq ww own hS hBg fr kn => .inl ⟨trivial, fun K hK => wp_value (exec_fa rfl fr.1 (by decide)) (hK _ _ ⟨Touch.refl _ _, rfl⟩)⟩),
   (fun Q aq ww own hS hBg fr kn => .inl ⟨trivial, fun K hK => wp_value (lookf rfl kn.1 (range_in (obAt kn.2.1) (Q4_3 x z v w))) (hK _ _ ⟨Touch.refl _ _, rfl⟩)⟩),
   (fun Q aq ww own hS hBg fr kn => .inl ⟨trivial, fun K hK => stepc2 enterSub rfl kn.1 kn.2.1 (sub_any v w ww hS.2 Nv.1 Nv.2 Nw.1 Nw.2) (fun w' hb => hK _ _ ⟨touch_below hb, (congrArg (fun n => Value.agg (BA n)) Hd1.out)⟩)⟩),
   (fun Q aq ww own hS hBg fr kn => .inl ⟨trivial, fun K hK => act_alloc zero_bytes rfl (fun w' hb hg => hK _ _ ⟨touch_below hb, _, Nat.le_refl _, rfl, obIn hg⟩)⟩),
   (fun Q aq ww own hS hBg fr kn => .inl ⟨trivial, fun K hK => act_alloc zero_bytes rfl (fun w' hb hg => hK _ _ ⟨touch_below hb, _, Nat.le_refl _, rfl, obIn hg⟩)⟩),
   (fun Q aq ww own hS hBg fr kn => .inl ⟨trivial, fun K hK => actbytes rfl kn.1.1 kn.2.2.1 (obAt kn.2.1) (fun w2 hg ho => hK _ _ ⟨touch_only ho, obIn hg, trivial⟩)⟩),
   (fun Q aq ww own hS hBg fr kn => .inl ⟨trivial, fun K hK => actbytes rfl kn.1.1 kn.2.2.1 (obAt kn.2.1) (fun w2 hg ho => hK _ _ ⟨touch_only ho, obIn hg, trivial⟩)⟩),
   trivial⟩ ?_
 intro vs2 own v2 hK2 hs2 kn inj
 clear inj
 have e7 : vs2 7 = .pointer (some ⟨own 11, 0, none⟩) := kn.1.1
 have l7 : v1.heap.size ≤ own 11 := kn.1.2.1
 have g7 := obAt kn.2.1
 have e8 : vs2 8 = .pointer (some ⟨own 12, 0, none⟩) := kn.2.2.1.1
 have l8 : v1.heap.size ≤ own 12 := kn.2.2.1.2.1
 have g8 := obAt kn.2.2.2.1
 have g2_ := obAt kn.2.2.2.2.1
 have g3_ := obAt kn.2.2.2.2.2.1
 have g4_ := obAt kn.2.2.2.2.2.2.1
 have g5_ := obAt kn.2.2.2.2.2.2.2.1
 have g6_ := obAt kn.2.2.2.2.2.2.2.2.1
 clear kn
 generalize own 11 = b7 at *
 generalize own 12 = b8 at *
 simp only [putAll, Act.put, List.setIfInBounds_toArray, List.set_cons_zero, List.set_cons_succ, e7, e8]
 replace l7 : wd.heap.size + 3 ≤ b7 := by omega
 replace l8 : wd.heap.size + 3 ≤ b8 := by omega
 replace hs : wd.heap.size + 3 ≤ v2.heap.size := by omega
 clear e7 e8 g2 g3 g4 g5 g6 hs2
 have g2 := g2_
 clear g2_
 have g3 := g3_
 clear g3_
 have g4 := g4_
 clear g4_
 have g5 := g5_
 clear g5_
 have g6 := g6_
 clear g6_
 clear hK
 have hK := hK2
 clear hK2
 clear own
 obtain ⟨aa, haa⟩ : ∃ y, a1 * a1 % P255 = y := ⟨_, rfl⟩
 have Naa : N256 aa := haa ▸ N256.mod _
 have Haa := Hid.mk haa
 clear haa
 obtain ⟨bb, hbb⟩ : ∃ y, b1 * b1 % P255 = y := ⟨_, rfl⟩
 have Nbb : N256 bb := hbb ▸ N256.mod _
 have Hbb := Hid.mk hbb
 clear hbb
 go_wp2_with fail
 refine wp_region3 (Keep wd) v2.heap.size
  [(wd.heap.size, fixd (Q4 x z v w) 136), ((wd.heap.size + 1), fixd (BA u) 22), ((wd.heap.size + 1 + 1), fixd (Q4 0 0 0 0) 136), (b5, fixd (BA a1) 22), (b6, fixd (BA b1) 22), (b7, fixd (BA c1) 22), (b8, fixd (BA d1) 22)]
  [kv (.agg (BA a1)), kv (.agg (BA a1)), ks 2 (BA a1 ++ BA a1) 22, kv (.agg (BA aa)), kv (.agg (BA b1)), kv (.agg (BA b1)), ks 2 (BA b1 ++ BA b1) 22, kv (.agg (BA bb)), kp (BA 0) 22 10 (BA aa), kp (BA 0) 22 11 (BA bb), .val fun _ => True, .val fun _ => True]
  [.none, .none, .none, .none, .none, .none, .none, .none, .none, .none, .own 8 1, .own 9 1]
  [some 38, some 39, some 40, some 41, some 42, some 43, some 44, some 45, some 9, some 10, none, none]
  [(5, .pointer (some ⟨b5, 0, none⟩)), (6, .pointer (some ⟨b6, 0, none⟩))]
  [[.base 3 0], [.base 3 0], [.slot 0, .slot 1], [.slot 2, .cont 2 0], [.base 4 0], [.base 4 0], [.slot 4, .slot 5], [.slot 6, .cont 6 0], [], [], [.slot 8, .cont 8 0, .slot 3], [.slot 9, .cont 9 0, .slot 7]]
  [.slot 8, .cont 8 1, .slot 9, .cont 9 1, .base 0 0, .base 1 0, .base 2 0, .base 3 0, .base 4 0, .base 5 0, .base 6 0] [38, 39, 40, 41, 42, 43, 44, 45, 9, 10]
  rfl (by kernel_rfl) ⟨rfl, rfl, trivial⟩ (keep_drew hK) (Nat.le_refl _) ⟨⟨heap_lt g2, obIn g2⟩, ⟨heap_lt g3, obIn g3⟩, ⟨heap_lt g4, obIn g4⟩, ⟨heap_lt g5, obIn g5⟩, ⟨heap_lt g6, obIn g6⟩, ⟨heap_lt g7, obIn g7⟩, ⟨heap_lt g8, obIn g8⟩, trivial⟩ ⟨⟨trivial, trivial, trivial, trivial, trivial, trivial, trivial⟩, ⟨trivial, trivial, trivial, trivial, trivial, trivial⟩, ⟨trivial, trivial, trivial, trivial, trivial⟩, ⟨trivial, trivial, trivial, trivial⟩, ⟨trivial, trivial, trivial⟩, ⟨trivial, trivial⟩, trivial, trivial⟩ (keep_G hz (by omega) ⟨(by omega), (by omega), (by omega), (by omega), (by omega), (by omega), (by omega), trivial⟩)
  ⟨
   (fun Q aq ww own hS hBg fr kn => .inl ⟨trivial, fun K hK => wp_value (lookb rfl fr.1 (obAt kn.1)) (hK _ _ ⟨Touch.refl _ _, rfl⟩)⟩),
   (fun Q aq ww own hS hBg fr kn => .inl ⟨trivial, fun K hK => wp_value (lookb rfl fr.1 (obAt kn.1)) (hK _ _ ⟨Touch.refl _ _, rfl⟩)⟩),
   (fun Q aq ww own hS hBg fr kn => .inl ⟨trivial, fun K hK => actb2 rfl kn.1 kn.2.1 (fun v hg hb => hK _ _ ⟨touch_below hb, _, Nat.le_refl _, rfl, obIn hg⟩)⟩),
   (fun Q aq ww own hS hBg fr kn => .inl ⟨trivial, fun K hK => stepc1 enterMul rfl kn.1.1 (mul2 a1 a1 _ ww Na1 Na1 (rows2 (obAt kn.2.1)) kn.1.2.2) (fun w' hb => hK _ _ ⟨touch_below hb, (congrArg (fun n => Value.agg (BA n)) Haa.out)⟩)⟩),
   (fun Q aq ww own hS hBg fr kn => .inl ⟨trivial, fun K hK => wp_value (lookb rfl fr.2.1 (obAt kn.1)) (hK _ _ ⟨Touch.refl _ _, rfl⟩)⟩),
   (fun Q aq ww own hS hBg fr kn => .inl ⟨trivial, fun K hK => wp_value (lookb rfl fr.2.1 (obAt kn.1)) (hK _ _ ⟨Touch.refl _ _, rfl⟩)⟩),
   (fun Q aq ww own hS hBg fr kn => .inl ⟨trivial, fun K hK => actb2 rfl kn.1 kn.2.1 (fun v hg hb => hK _ _ ⟨touch_below hb, _, Nat.le_refl _, rfl, obIn hg⟩)⟩),
   (fun Q aq ww own hS hBg fr kn => .inl ⟨trivial, fun K hK => stepc1 enterMul rfl kn.1.1 (mul2 b1 b1 _ ww Nb1 Nb1 (rows2 (obAt kn.2.1)) kn.1.2.2) (fun w' hb => hK _ _ ⟨touch_below hb, (congrArg (fun n => Value.agg (BA n)) Hbb.out)⟩)⟩),
   (fun Q aq ww own hS hBg fr kn => .inl ⟨trivial, fun K hK => act_alloc zero_bytes rfl (fun w' hb hg => hK _ _ ⟨touch_below hb, _, Nat.le_refl _, rfl, obIn hg⟩)⟩),
   (fun Q aq ww own hS hBg fr kn => .inl ⟨trivial, fun K hK => act_alloc zero_bytes rfl (fun w' hb hg => hK _ _ ⟨touch_below hb, _, Nat.le_refl _, rfl, obIn hg⟩)⟩),
   (fun Q aq ww own hS hBg fr kn => .inl ⟨trivial, fun K hK => actbytes rfl kn.1.1 kn.2.2.1 (obAt kn.2.1) (fun w2 hg ho => hK _ _ ⟨touch_only ho, obIn hg, trivial⟩)⟩),
   (fun Q aq ww own hS hBg fr kn => .inl ⟨trivial, fun K hK => actbytes rfl kn.1.1 kn.2.2.1 (obAt kn.2.1) (fun w2 hg ho => hK _ _ ⟨touch_only ho, obIn hg, trivial⟩)⟩),
   trivial⟩ ?_
 intro vs3 own v3 hK3 hs3 kn inj
 clear inj
 have e9 : vs3 9 = .pointer (some ⟨own 8, 0, none⟩) := kn.1.1
 have l9 : v2.heap.size ≤ own 8 := kn.1.2.1
 have g9 := obAt kn.2.1
 have e10 : vs3 10 = .pointer (some ⟨own 9, 0, none⟩) := kn.2.2.1.1
 have l10 : v2.heap.size ≤ own 9 := kn.2.2.1.2.1
 have g10 := obAt kn.2.2.2.1
 have g2_ := obAt kn.2.2.2.2.1
 have g3_ := obAt kn.2.2.2.2.2.1
 have g4_ := obAt kn.2.2.2.2.2.2.1
 have g5_ := obAt kn.2.2.2.2.2.2.2.1
 have g6_ := obAt kn.2.2.2.2.2.2.2.2.1
 have g7_ := obAt kn.2.2.2.2.2.2.2.2.2.1
 have g8_ := obAt kn.2.2.2.2.2.2.2.2.2.2.1
 clear kn
 generalize own 8 = b9 at *
 generalize own 9 = b10 at *
 simp only [putAll, Act.put, List.setIfInBounds_toArray, List.set_cons_zero, List.set_cons_succ, e9, e10]
 replace l9 : wd.heap.size + 3 ≤ b9 := by omega
 replace l10 : wd.heap.size + 3 ≤ b10 := by omega
 replace hs : wd.heap.size + 3 ≤ v3.heap.size := by omega
 clear e9 e10 g2 g3 g4 g5 g6 g7 g8 hs3
 have g2 := g2_
 clear g2_
 have g3 := g3_
 clear g3_
 have g4 := g4_
 clear g4_
 have g5 := g5_
 clear g5_
 have g6 := g6_
 clear g6_
 have g7 := g7_
 clear g7_
 have g8 := g8_
 clear g8_
 clear hK
 have hK := hK3
 clear hK3
 clear own
 obtain ⟨da, hda⟩ : ∃ y, d1 * a1 % P255 = y := ⟨_, rfl⟩
 have Nda : N256 da := hda ▸ N256.mod _
 have Hda := Hid.mk hda
 clear hda
 obtain ⟨cb, hcb⟩ : ∃ y, c1 * b1 % P255 = y := ⟨_, rfl⟩
 have Ncb : N256 cb := hcb ▸ N256.mod _
 have Hcb := Hid.mk hcb
 clear hcb
 go_wp2_with fail
 refine wp_region3 (Keep wd) v3.heap.size
  [(wd.heap.size, fixd (Q4 x z v w) 136), ((wd.heap.size + 1), fixd (BA u) 22), ((wd.heap.size + 1 + 1), fixd (Q4 0 0 0 0) 136), (b5, fixd (BA a1) 22), (b6, fixd (BA b1) 22), (b7, fixd (BA c1) 22), (b8, fixd (BA d1) 22), (b9, fixd (BA aa) 22), (b10, fixd (BA bb) 22)]
  [kv (.agg (BA d1)), kv (.agg (BA a1)), ks 2 (BA d1 ++ BA a1) 22, kv (.agg (BA da)), kv (.agg (BA c1)), kv (.agg (BA b1)), ks 2 (BA c1 ++ BA b1) 22, kv (.agg (BA cb)), kp (BA 0) 22 10 (BA da), kp (BA 0) 22 11 (BA cb), .val fun _ => True, .val fun _ => True]
  [.none, .none, .none, .none, .none, .none, .none, .none, .none, .none, .own 8 1, .own 9 1]
  [some 46, some 47, some 48, some 49, some 50, some 51, some 52, some 53, some 11, some 12, none, none]
  [(5, .pointer (some ⟨b5, 0, none⟩)), (6, .pointer (some ⟨b6, 0, none⟩)), (7, .pointer (some ⟨b7, 0, none⟩)), (8, .pointer (some ⟨b8, 0, none⟩))]
  [[.base 6 0], [.base 3 0], [.slot 0, .slot 1], [.slot 2, .cont 2 0], [.base 5 0], [.base 4 0], [.slot 4, .slot 5], [.slot 6, .cont 6 0], [], [], [.slot 8, .cont 8 0, .slot 3], [.slot 9, .cont 9 0, .slot 7]]
  [.slot 8, .cont 8 1, .slot 9, .cont 9 1, .base 0 0, .base 1 0, .base 2 0, .base 3 0, .base 4 0, .base 5 0, .base 6 0, .base 7 0, .base 8 0] [46, 47, 48, 49, 50, 51, 52, 53, 11, 12]
  rfl (by kernel_rfl) ⟨rfl, rfl, rfl, rfl, trivial⟩ (keep_drew hK) (Nat.le_refl _) ⟨⟨heap_lt g2, obIn g2⟩, ⟨heap_lt g3, obIn g3⟩, ⟨heap_lt g4, obIn g4⟩, ⟨heap_lt g5, obIn g5⟩, ⟨heap_lt g6, obIn g6⟩, ⟨heap_lt g7, obIn g7⟩, ⟨heap_lt g8, obIn g8⟩, ⟨heap_lt g9, obIn g9⟩, ⟨heap_lt g10, obIn g10⟩, trivial⟩ ⟨⟨trivial, trivial, trivial, trivial, trivial, trivial, trivial, trivial, trivial⟩, ⟨trivial, trivial, trivial, trivial, trivial, trivial, trivial, trivial⟩, ⟨trivial, trivial, trivial, trivial, trivial, trivial, trivial⟩, ⟨trivial, trivial, trivial, trivial, trivial, trivial⟩, ⟨trivial, trivial, trivial, trivial, trivial⟩, ⟨trivial, trivial, trivial, trivial⟩, ⟨trivial, trivial, trivial⟩, ⟨trivial, trivial⟩, trivial, trivial⟩ (keep_G hz (by omega) ⟨(by omega), (by omega), (by omega), (by omega), (by omega), (by omega), (by omega), (by omega), (by omega), trivial⟩)
  ⟨
   (fun Q aq ww own hS hBg fr kn => .inl ⟨trivial, fun K hK => wp_value (lookb rfl fr.2.2.2.1 (obAt kn.1)) (hK _ _ ⟨Touch.refl _ _, rfl⟩)⟩),
   (fun Q aq ww own hS hBg fr kn => .inl ⟨trivial, fun K hK => wp_value (lookb rfl fr.1 (obAt kn.1)) (hK _ _ ⟨Touch.refl _ _, rfl⟩)⟩),
   (fun Q aq ww own hS hBg fr kn => .inl ⟨trivial, fun K hK => actb2 rfl kn.1 kn.2.1 (fun v hg hb => hK _ _ ⟨touch_below hb, _, Nat.le_refl _, rfl, obIn hg⟩)⟩),
   (fun Q aq ww own hS hBg fr kn => .inl ⟨trivial, fun K hK => stepc1 enterMul rfl kn.1.1 (mul2 d1 a1 _ ww Nd1 Na1 (rows2 (obAt kn.2.1)) kn.1.2.2) (fun w' hb => hK _ _ ⟨touch_below hb, (congrArg (fun n => Value.agg (BA n)) Hda.out)⟩)⟩),
   (fun Q aq ww own hS hBg fr kn => .inl ⟨trivial, fun K hK => wp_value (lookb rfl fr.2.2.1 (obAt kn.1)) (hK _ _ ⟨Touch.refl _ _, rfl⟩)⟩),
   (fun Q aq ww own hS hBg fr kn => .inl ⟨trivial, fun K hK => wp_value (lookb rfl fr.2.1 (obAt kn.1)) (hK _ _ ⟨Touch.refl _ _, rfl⟩)⟩),
   (fun Q aq ww own hS hBg fr kn => .inl ⟨trivial, fun K hK => actb2 rfl kn.1 kn.2.1 (fun v hg hb => hK _ _ ⟨touch_below hb, _, Nat.le_refl _, rfl, obIn hg⟩)⟩),
   (fun Q aq ww own hS hBg fr kn => .inl ⟨trivial, fun K hK => stepc1 enterMul rfl kn.1.1 (mul2 c1 b1 _ ww Nc1 Nb1 (rows2 (obAt kn.2.1)) kn.1.2.2) (fun w' hb => hK _ _ ⟨touch_below hb, (congrArg (fun n => Value.agg (BA n)) Hcb.out)⟩)⟩),
   (fun Q aq ww own hS hBg fr kn => .inl ⟨trivial, fun K hK => act_alloc zero_bytes rfl (fun w' hb hg => hK _ _ ⟨touch_below hb, _, Nat.le_refl _, rfl, obIn hg⟩)⟩),
   (fun Q aq ww own hS hBg fr kn => .inl ⟨trivial, fun K hK => act_alloc zero_bytes rfl (fun w' hb hg => hK _ _ ⟨touch_below hb, _, Nat.le_refl _, rfl, obIn hg⟩)⟩),
   (fun Q aq ww own hS hBg fr kn => .inl ⟨trivial, fun K hK => actbytes rfl kn.1.1 kn.2.2.1 (obAt kn.2.1) (fun w2 hg ho => hK _ _ ⟨touch_only ho, obIn hg, trivial⟩)⟩),
   (fun Q aq ww own hS hBg fr kn => .inl ⟨trivial, fun K hK => actbytes rfl kn.1.1 kn.2.2.1 (obAt kn.2.1) (fun w2 hg ho => hK _ _ ⟨touch_only ho, obIn hg, trivial⟩)⟩),
   trivial⟩ ?_
 intro vs4 own v4 hK4 hs4 kn inj
 clear inj
 have e11 : vs4 11 = .pointer (some ⟨own 8, 0, none⟩) := kn.1.1
 have l11 : v3.heap.size ≤ own 8 := kn.1.2.1
 have g11 := obAt kn.2.1
 have e12 : vs4 12 = .pointer (some ⟨own 9, 0, none⟩) := kn.2.2.1.1
 have l12 : v3.heap.size ≤ own 9 := kn.2.2.1.2.1
 have g12 := obAt kn.2.2.2.1
 have g2_ := obAt kn.2.2.2.2.1
 have g3_ := obAt kn.2.2.2.2.2.1
 have g4_ := obAt kn.2.2.2.2.2.2.1
 have g5_ := obAt kn.2.2.2.2.2.2.2.1
 have g6_ := obAt kn.2.2.2.2.2.2.2.2.1
 have g7_ := obAt kn.2.2.2.2.2.2.2.2.2.1
 have g8_ := obAt kn.2.2.2.2.2.2.2.2.2.2.1
 have g9_ := obAt kn.2.2.2.2.2.2.2.2.2.2.2.1
 have g10_ := obAt kn.2.2.2.2.2.2.2.2.2.2.2.2.1
 clear kn
 generalize own 8 = b11 at *
 generalize own 9 = b12 at *
 simp only [putAll, Act.put, List.setIfInBounds_toArray, List.set_cons_zero, List.set_cons_succ, e11, e12]
 replace l11 : wd.heap.size + 3 ≤ b11 := by omega
 replace l12 : wd.heap.size + 3 ≤ b12 := by omega
 replace hs : wd.heap.size + 3 ≤ v4.heap.size := by omega
 clear e11 e12 g2 g3 g4 g5 g6 g7 g8 g9 g10 hs4
 have g2 := g2_
 clear g2_
 have g3 := g3_
 clear g3_
 have g4 := g4_
 clear g4_
 have g5 := g5_
 clear g5_
 have g6 := g6_
 clear g6_
 have g7 := g7_
 clear g7_
 have g8 := g8_
 clear g8_
 have g9 := g9_
 clear g9_
 have g10 := g10_
 clear g10_
 clear hK
 have hK := hK4
 clear hK4
 clear own
 obtain ⟨ee, hee⟩ : ∃ y, (aa - bb) % P255 = y := ⟨_, rfl⟩
 have Nee : N256 ee := hee ▸ N256.mod _
 have Hee := Hid.mk hee
 clear hee
 go_wp2_with (first | (refine ld_bytes rfl _ rfl _ _ rfl g9 (BA_size _) ?_) | (refine ld_bytes rfl _ rfl _ _ rfl g10 (BA_size _) ?_))
 refine (sub_any aa bb _ hK.2 Naa.1 Naa.2 Nbb.1 Nbb.2).mono ?_
 rintro e u5 ⟨rfl, hb⟩
 rw [Hee.out]
 replace g2 := bheap hb g2 (heap_lt g2)
 replace g3 := bheap hb g3 (heap_lt g3)
 replace g4 := bheap hb g4 (heap_lt g4)
 replace g5 := bheap hb g5 (heap_lt g5)
 replace g6 := bheap hb g6 (heap_lt g6)
 replace g7 := bheap hb g7 (heap_lt g7)
 replace g8 := bheap hb g8 (heap_lt g8)
 replace g9 := bheap hb g9 (heap_lt g9)
 replace g10 := bheap hb g10 (heap_lt g10)
 replace g11 := bheap hb g11 (heap_lt g11)
 replace g12 := bheap hb g12 (heap_lt g12)
 replace hK := keep_below hz hK (hb.mono (by omega))
 replace hs : wd.heap.size + 3 ≤ u5.heap.size := Nat.le_trans hs hb.size
 clear hb
 go_wp2_with (refine st_bytesS (by rfl) (by rfl) (heap_alloc_new u5 _) (by rfl) ?_; intro v5 g13 o13; refine Hid.out ?_)
 replace g2 := (o13.block _ (Nat.ne_of_lt (heap_lt g2))).trans ((Below.heap_alloc u5 _ _ (heap_lt g2)).trans g2)
 replace g3 := (o13.block _ (Nat.ne_of_lt (heap_lt g3))).trans ((Below.heap_alloc u5 _ _ (heap_lt g3)).trans g3)
 replace g4 := (o13.block _ (Nat.ne_of_lt (heap_lt g4))).trans ((Below.heap_alloc u5 _ _ (heap_lt g4)).trans g4)
 replace g5 := (o13.block _ (Nat.ne_of_lt (heap_lt g5))).trans ((Below.heap_alloc u5 _ _ (heap_lt g5)).trans g5)
 replace g6 := (o13.block _ (Nat.ne_of_lt (heap_lt g6))).trans ((Below.heap_alloc u5 _ _ (heap_lt g6)).trans g6)
 replace g7 := (o13.block _ (Nat.ne_of_lt (heap_lt g7))).trans ((Below.heap_alloc u5 _ _ (heap_lt g7)).trans g7)
 replace g8 := (o13.block _ (Nat.ne_of_lt (heap_lt g8))).trans ((Below.heap_alloc u5 _ _ (heap_lt g8)).trans g8)
 replace g9 := (o13.block _ (Nat.ne_of_lt (heap_lt g9))).trans ((Below.heap_alloc u5 _ _ (heap_lt g9)).trans g9)
 replace g10 := (o13.block _ (Nat.ne_of_lt (heap_lt g10))).trans ((Below.heap_alloc u5 _ _ (heap_lt g10)).trans g10)
 replace g11 := (o13.block _ (Nat.ne_of_lt (heap_lt g11))).trans ((Below.heap_alloc u5 _ _ (heap_lt g11)).trans g11)
 replace g12 := (o13.block _ (Nat.ne_of_lt (heap_lt g12))).trans ((Below.heap_alloc u5 _ _ (heap_lt g12)).trans g12)
 replace hK := keep_below hz hK (Below.trans ((Below.refl _ _).alloc (by omega) _) (Only.below (b := u5.heap.size) (B := wd.heap.size) o13 (by omega)))
 have hs5 : wd.heap.size + 3 ≤ v5.heap.size := by rw [o13.size]; simp; omega
 clear o13
 generalize hb13 : u5.heap.size = b13 at *
 have l13 := hs
 clear hs hb13
 have hs := hs5
 clear hs5
 refine Hid.mk ?_
 obtain ⟨sm, hsm⟩ : ∃ y, (da + cb) % P255 = y := ⟨_, rfl⟩
 have Nsm : N256 sm := hsm ▸ N256.mod _
 have Hsm := Hid.mk hsm
 clear hsm
 obtain ⟨rs, hrs⟩ : ∃ y, (da - cb) % P255 = y := ⟨_, rfl⟩
 have Nrs : N256 rs := hrs ▸ N256.mod _
 have Hrs := Hid.mk hrs
 clear hrs
 go_wp2_with fail
 refine wp_region3 (Keep wd) v5.heap.size
  [(wd.heap.size, fixd (Q4 x z v w) 136), ((wd.heap.size + 1), fixd (BA u) 22), ((wd.heap.size + 1 + 1), fixd (Q4 0 0 0 0) 136), (b5, fixd (BA a1) 22), (b6, fixd (BA b1) 22), (b7, fixd (BA c1) 22), (b8, fixd (BA d1) 22), (b9, fixd (BA aa) 22), (b10, fixd (BA bb) 22), (b11, fixd (BA da) 22), (b12, fixd (BA cb) 22), (b13, fixd (BA ee) 22)]
  [kv (.agg (BA da)), kv (.agg (BA cb)), ks 2 (BA da ++ BA cb) 22, kv (.agg (BA sm)), kv (.agg (BA da)), kv (.agg (BA cb)), kv (.agg (BA rs)), kp (BA 0) 22 9 (BA sm), kp (BA 0) 22 10 (BA rs), .val fun _ => True, .val fun _ => True]
  [.none, .none, .none, .none, .none, .none, .none, .none, .none, .own 7 1, .own 8 1]
  [some 57, some 58, some 59, some 60, some 61, some 62, some 63, some 14, some 15, none, none]
  [(11, .pointer (some ⟨b11, 0, none⟩)), (12, .pointer (some ⟨b12, 0, none⟩))]
  [[.base 9 0], [.base 10 0], [.slot 0, .slot 1], [.slot 2, .cont 2 0], [.base 9 0], [.base 10 0], [.slot 4, .slot 5], [], [], [.slot 7, .cont 7 0, .slot 3], [.slot 8, .cont 8 0, .slot 6]]
  [.slot 7, .cont 7 1, .slot 8, .cont 8 1, .base 0 0, .base 1 0, .base 2 0, .base 3 0, .base 4 0, .base 5 0, .base 6 0, .base 7 0, .base 8 0, .base 9 0, .base 10 0, .base 11 0] [57, 58, 59, 60, 61, 62, 63, 14, 15]
  rfl (by kernel_rfl) ⟨rfl, rfl, trivial⟩ (keep_drew hK) (Nat.le_refl _) ⟨⟨heap_lt g2, obIn g2⟩, ⟨heap_lt g3, obIn g3⟩, ⟨heap_lt g4, obIn g4⟩, ⟨heap_lt g5, obIn g5⟩, ⟨heap_lt g6, obIn g6⟩, ⟨heap_lt g7, obIn g7⟩, ⟨heap_lt g8, obIn g8⟩, ⟨heap_lt g9, obIn g9⟩, ⟨heap_lt g10, obIn g10⟩, ⟨heap_lt g11, obIn g11⟩, ⟨heap_lt g12, obIn g12⟩, ⟨heap_lt g13, obIn g13⟩, trivial⟩ ⟨⟨trivial, trivial, trivial, trivial, trivial, trivial, trivial, trivial, trivial, trivial, trivial, trivial⟩, ⟨trivial, trivial, trivial, trivial, trivial, trivial, trivial, trivial, trivial, trivial, trivial⟩, ⟨trivial, trivial, trivial, trivial, trivial, trivial, trivial, trivial, trivial, trivial⟩, ⟨trivial, trivial, trivial, trivial, trivial, trivial, trivial, trivial, trivial⟩, ⟨trivial, trivial, trivial, trivial, trivial, trivial, trivial, trivial⟩, ⟨trivial, trivial, trivial, trivial, trivial, trivial, trivial⟩, ⟨trivial, trivial, trivial, trivial, trivial, trivial⟩, ⟨trivial, trivial, trivial, trivial, trivial⟩, ⟨trivial, trivial, trivial, trivial⟩, ⟨trivial, trivial, trivial⟩, ⟨trivial, trivial⟩, trivial, trivial⟩ (keep_G hz (by omega) ⟨(by omega), (by omega), (by omega), (by omega), (by omega), (by omega), (by omega), (by omega), (by omega), (by omega), (by omega), (by omega), trivial⟩)
  ⟨
   (fun Q aq ww own hS hBg fr kn => .inl ⟨trivial, fun K hK => wp_value (lookb rfl fr.1 (obAt kn.1)) (hK _ _ ⟨Touch.refl _ _, rfl⟩)⟩),
   (fun Q aq ww own hS hBg fr kn => .inl ⟨trivial, fun K hK => wp_value (lookb rfl fr.2.1 (obAt kn.1)) (hK _ _ ⟨Touch.refl _ _, rfl⟩)⟩),
   (fun Q aq ww own hS hBg fr kn => .inl ⟨trivial, fun K hK => actb2 rfl kn.1 kn.2.1 (fun v hg hb => hK _ _ ⟨touch_below hb, _, Nat.le_refl _, rfl, obIn hg⟩)⟩),
   (fun Q aq ww own hS hBg fr kn => .inl ⟨trivial, fun K hK => stepc1 enterAdd rfl kn.1.1 (add2 da cb _ ww Nda Ncb (rows2 (obAt kn.2.1)) kn.1.2.2) (fun w' hb => hK _ _ ⟨touch_below hb, (congrArg (fun n => Value.agg (BA n)) Hsm.out)⟩)⟩),
   (fun Q aq ww own hS hBg fr kn => .inl ⟨trivial, fun K hK => wp_value (lookb rfl fr.1 (obAt kn.1)) (hK _ _ ⟨Touch.refl _ _, rfl⟩)⟩),
   (fun Q aq ww own hS hBg fr kn => .inl ⟨trivial, fun K hK => wp_value (lookb rfl fr.2.1 (obAt kn.1)) (hK _ _ ⟨Touch.refl _ _, rfl⟩)⟩),
   (fun Q aq ww own hS hBg fr kn => .inl ⟨trivial, fun K hK => stepc2 enterSub rfl kn.1 kn.2.1 (sub_any da cb ww hS.2 Nda.1 Nda.2 Ncb.1 Ncb.2) (fun w' hb => hK _ _ ⟨touch_below hb, (congrArg (fun n => Value.agg (BA n)) Hrs.out)⟩)⟩),
   (fun Q aq ww own hS hBg fr kn => .inl ⟨trivial, fun K hK => act_alloc zero_bytes rfl (fun w' hb hg => hK _ _ ⟨touch_below hb, _, Nat.le_refl _, rfl, obIn hg⟩)⟩),
   (fun Q aq ww own hS hBg fr kn => .inl ⟨trivial, fun K hK => act_alloc zero_bytes rfl (fun w' hb hg => hK _ _ ⟨touch_below hb, _, Nat.le_refl _, rfl, obIn hg⟩)⟩),
   (fun Q aq ww own hS hBg fr kn => .inl ⟨trivial, fun K hK => actbytes rfl kn.1.1 kn.2.2.1 (obAt kn.2.1) (fun w2 hg ho => hK _ _ ⟨touch_only ho, obIn hg, trivial⟩)⟩),
   (fun Q aq ww own hS hBg fr kn => .inl ⟨trivial, fun K hK => actbytes rfl kn.1.1 kn.2.2.1 (obAt kn.2.1) (fun w2 hg ho => hK _ _ ⟨touch_only ho, obIn hg, trivial⟩)⟩),
   trivial⟩ ?_
 intro vs6 own v6 hK6 hs6 kn inj
 clear inj
 have e14 : vs6 14 = .pointer (some ⟨own 7, 0, none⟩) := kn.1.1
 have l14 : v5.heap.size ≤ own 7 := kn.1.2.1
 have g14 := obAt kn.2.1
 have e15 : vs6 15 = .pointer (some ⟨own 8, 0, none⟩) := kn.2.2.1.1
 have l15 : v5.heap.size ≤ own 8 := kn.2.2.1.2.1
 have g15 := obAt kn.2.2.2.1
 have g2_ := obAt kn.2.2.2.2.1
 have g3_ := obAt kn.2.2.2.2.2.1
 have g4_ := obAt kn.2.2.2.2.2.2.1
 have g5_ := obAt kn.2.2.2.2.2.2.2.1
 have g6_ := obAt kn.2.2.2.2.2.2.2.2.1
 have g7_ := obAt kn.2.2.2.2.2.2.2.2.2.1
 have g8_ := obAt kn.2.2.2.2.2.2.2.2.2.2.1
 have g9_ := obAt kn.2.2.2.2.2.2.2.2.2.2.2.1
 have g10_ := obAt kn.2.2.2.2.2.2.2.2.2.2.2.2.1
 have g11_ := obAt kn.2.2.2.2.2.2.2.2.2.2.2.2.2.1
 have g12_ := obAt kn.2.2.2.2.2.2.2.2.2.2.2.2.2.2.1
 have g13_ := obAt kn.2.2.2.2.2.2.2.2.2.2.2.2.2.2.2.1
 clear kn
 generalize own 7 = b14 at *
 generalize own 8 = b15 at *
 simp only [putAll, Act.put, List.setIfInBounds_toArray, List.set_cons_zero, List.set_cons_succ, e14, e15]
 replace l14 : wd.heap.size + 3 ≤ b14 := by omega
 replace l15 : wd.heap.size + 3 ≤ b15 := by omega
 replace hs : wd.heap.size + 3 ≤ v6.heap.size := by omega
 clear e14 e15 g2 g3 g4 g5 g6 g7 g8 g9 g10 g11 g12 g13 hs6
 have g2 := g2_
 clear g2_
 have g3 := g3_
 clear g3_
 have g4 := g4_
 clear g4_
 have g5 := g5_
 clear g5_
 have g6 := g6_
 clear g6_
 have g7 := g7_
 clear g7_
 have g8 := g8_
 clear g8_
 have g9 := g9_
 clear g9_
 have g10 := g10_
 clear g10_
 have g11 := g11_
 clear g11_
 have g12 := g12_
 clear g12_
 have g13 := g13_
 clear g13_
 clear hK
 have hK := hK6
 clear hK6
 clear own
 obtain ⟨nx, hnx⟩ : ∃ y, aa * bb % P255 = y := ⟨_, rfl⟩
 have Nnx : N256 nx := hnx ▸ N256.mod _
 have Hnx := Hid.mk hnx
 clear hnx
 obtain ⟨mm, hmm⟩ : ∃ y, 121665 % P255 = y := ⟨_, rfl⟩
 have Nmm : N256 mm := hmm ▸ N256.mod _
 have Hmm := Hid.mk hmm
 clear hmm
 obtain ⟨t1, ht1⟩ : ∃ y, mm * ee % P255 = y := ⟨_, rfl⟩
 have Nt1 : N256 t1 := ht1 ▸ N256.mod _
 have Ht1 := Hid.mk ht1
 clear ht1
 obtain ⟨t2, ht2⟩ : ∃ y, (aa + t1) % P255 = y := ⟨_, rfl⟩
 have Nt2 : N256 t2 := ht2 ▸ N256.mod _
 have Ht2 := Hid.mk ht2
 clear ht2
 obtain ⟨nz, hnz⟩ : ∃ y, ee * t2 % P255 = y := ⟨_, rfl⟩
 have Nnz : N256 nz := hnz ▸ N256.mod _
 have Hnz := Hid.mk hnz
 clear hnz
 obtain ⟨nv, hnv⟩ : ∃ y, sm * sm % P255 = y := ⟨_, rfl⟩
 have Nnv : N256 nv := hnv ▸ N256.mod _
 have Hnv := Hid.mk hnv
 clear hnv
 obtain ⟨nw, hnw⟩ : ∃ y, u * (rs * rs) % P255 = y := ⟨_, rfl⟩
 have Nnw : N256 nw := hnw ▸ N256.mod _
 have Hnw := Hid.mk hnw
 clear hnw
 go_wp2_with fail
 refine wp_region3 (Keep wd) v6.heap.size
  [(wd.heap.size, fixd (Q4 x z v w) 136), ((wd.heap.size + 1), fixd (BA u) 22), ((wd.heap.size + 1 + 1), once (Q4 0 0 0 0) 136 24 (Q4 nx nz nv nw)), (b5, fixd (BA a1) 22), (b6, fixd (BA b1) 22), (b7, fixd (BA c1) 22), (b8, fixd (BA d1) 22), (b9, fixd (BA aa) 22), (b10, fixd (BA bb) 22), (b11, fixd (BA da) 22), (b12, fixd (BA cb) 22), (b13, fixd (BA ee) 22), (b14, fixd (BA sm) 22), (b15, fixd (BA rs) 22)]
  [kv (.agg (BA aa)), kv (.agg (BA bb)), ks 2 (BA aa ++ BA bb) 22, kv (.agg (BA nx)), kv (.agg (BA ee)), kv (.agg (BA aa)), kv (.agg (BA mm)), kv (.agg (BA ee)), ks 2 (BA mm ++ BA ee) 22, kv (.agg (BA t1)), ks 2 (BA aa ++ BA t1) 22, kv (.agg (BA t2)), ks 2 (BA ee ++ BA t2) 22, kv (.agg (BA nz)), kv (.agg (BA sm)), kv (.agg (BA sm)), ks 2 (BA sm ++ BA sm) 22, kv (.agg (BA nv)), kv (.agg (BA u)), kv (.agg (BA rs)), kv (.agg (BA rs)), ks 3 (BA u ++ BA rs ++ BA rs) 22, kv (.agg (BA nw)), kv (.agg (Q4 nx nz nv nw)), .val fun _ => True]
  [.none, .none, .none, .none, .none, .none, .none, .none, .none, .none, .none, .none, .none, .none, .none, .none, .none, .none, .none, .none, .none, .none, .none, .none, .base 2 1]
  [some 64, some 65, some 66, some 67, some 68, some 69, some 70, some 71, some 72, some 73, some 74, some 75, some 76, some 77, some 78, some 79, some 80, some 81, some 82, some 83, some 84, some 85, some 86, some 87, none]
  [(3, .pointer (some ⟨(wd.heap.size + 1), 0, none⟩)), (4, .pointer (some ⟨(wd.heap.size + 1 + 1), 0, none⟩)), (9, .pointer (some ⟨b9, 0, none⟩)), (10, .pointer (some ⟨b10, 0, none⟩)), (13, .pointer (some ⟨b13, 0, none⟩)), (14, .pointer (some ⟨b14, 0, none⟩)), (15, .pointer (some ⟨b15, 0, none⟩))]
  [[.base 7 0], [.base 8 0], [.slot 0, .slot 1], [.slot 2, .cont 2 0], [.base 11 0], [.base 7 0], [], [.base 11 0], [.slot 6, .slot 7], [.slot 8, .cont 8 0], [.slot 5, .slot 9], [.slot 10, .cont 10 0], [.slot 4, .slot 11], [.slot 12, .cont 12 0], [.base 12 0], [.base 12 0], [.slot 14, .slot 15], [.slot 16, .cont 16 0], [.base 1 0], [.base 13 0], [.base 13 0], [.slot 18, .slot 19, .slot 20], [.slot 21, .cont 21 0], [.slot 3, .slot 13, .slot 17, .slot 22], [.base 2 0, .slot 23]]
  [.base 0 0, .base 1 0, .base 2 1, .base 3 0, .base 4 0, .base 5 0, .base 6 0, .base 7 0, .base 8 0, .base 9 0, .base 10 0, .base 11 0, .base 12 0, .base 13 0] [64, 65, 66, 67, 68, 69, 70, 71, 72, 73, 74, 75, 76, 77, 78, 79, 80, 81, 82, 83, 84, 85, 86, 87]
  rfl (by kernel_rfl) ⟨rfl, rfl, rfl, rfl, rfl, rfl, rfl, trivial⟩ (keep_drew hK) (Nat.le_refl _) ⟨⟨heap_lt g2, obIn g2⟩, ⟨heap_lt g3, obIn g3⟩, ⟨heap_lt g4, obIn g4⟩, ⟨heap_lt g5, obIn g5⟩, ⟨heap_lt g6, obIn g6⟩, ⟨heap_lt g7, obIn g7⟩, ⟨heap_lt g8, obIn g8⟩, ⟨heap_lt g9, obIn g9⟩, ⟨heap_lt g10, obIn g10⟩, ⟨heap_lt g11, obIn g11⟩, ⟨heap_lt g12, obIn g12⟩, ⟨heap_lt g13, obIn g13⟩, ⟨heap_lt g14, obIn g14⟩, ⟨heap_lt g15, obIn g15⟩, trivial⟩ ⟨⟨trivial, (show (wd.heap.size : Nat) ≠ (wd.heap.size + 1 + 1) from by omega), trivial, trivial, trivial, trivial, trivial, trivial, trivial, trivial, trivial, trivial, trivial, trivial⟩, ⟨(show ((wd.heap.size + 1) : Nat) ≠ (wd.heap.size + 1 + 1) from by omega), trivial, trivial, trivial, trivial, trivial, trivial, trivial, trivial, trivial, trivial, trivial, trivial⟩, ⟨(show ((wd.heap.size + 1 + 1) : Nat) ≠ b5 from by omega), (show ((wd.heap.size + 1 + 1) : Nat) ≠ b6 from by omega), (show ((wd.heap.size + 1 + 1) : Nat) ≠ b7 from by omega), (show ((wd.heap.size + 1 + 1) : Nat) ≠ b8 from by omega), (show ((wd.heap.size + 1 + 1) : Nat) ≠ b9 from by omega), (show ((wd.heap.size + 1 + 1) : Nat) ≠ b10 from by omega), (show ((wd.heap.size + 1 + 1) : Nat) ≠ b11 from by omega), (show ((wd.heap.size + 1 + 1) : Nat) ≠ b12 from by omega), (show ((wd.heap.size + 1 + 1) : Nat) ≠ b13 from by omega), (show ((wd.heap.size + 1 + 1) : Nat) ≠ b14 from by omega), (show ((wd.heap.size + 1 + 1) : Nat) ≠ b15 from by omega), trivial⟩, ⟨trivial, trivial, trivial, trivial, trivial, trivial, trivial, trivial, trivial, trivial, trivial⟩, ⟨trivial, trivial, trivial, trivial, trivial, trivial, trivial, trivial, trivial, trivial⟩, ⟨trivial, trivial, trivial, trivial, trivial, trivial, trivial, trivial, trivial⟩, ⟨trivial, trivial, trivial, trivial, trivial, trivial, trivial, trivial⟩, ⟨trivial, trivial, trivial, trivial, trivial, trivial, trivial⟩, ⟨trivial, trivial, trivial, trivial, trivial, trivial⟩, ⟨trivial, trivial, trivial, trivial, trivial⟩, ⟨trivial, trivial, trivial, trivial⟩, ⟨trivial, trivial, trivial⟩, ⟨trivial, trivial⟩, trivial, trivial⟩ (keep_G hz (by omega) ⟨(by omega), (by omega), (by omega), (by omega), (by omega), (by omega), (by omega), (by omega), (by omega), (by omega), (by omega), (by omega), (by omega), (by omega), trivial⟩)
  ⟨
   (fun Q aq ww own hS hBg fr kn => .inl ⟨trivial, fun K hK => wp_value (lookb rfl fr.2.2.1 (obAt kn.1)) (hK _ _ ⟨Touch.refl _ _, rfl⟩)⟩),
   (fun Q aq ww own hS hBg fr kn => .inl ⟨trivial, fun K hK => wp_value (lookb rfl fr.2.2.2.1 (obAt kn.1)) (hK _ _ ⟨Touch.refl _ _, rfl⟩)⟩),
   (fun Q aq ww own hS hBg fr kn => .inl ⟨trivial, fun K hK => actb2 rfl kn.1 kn.2.1 (fun v hg hb => hK _ _ ⟨touch_below hb, _, Nat.le_refl _, rfl, obIn hg⟩)⟩),
   (fun Q aq ww own hS hBg fr kn => .inl ⟨trivial, fun K hK => stepc1 enterMul rfl kn.1.1 (mul2 aa bb _ ww Naa Nbb (rows2 (obAt kn.2.1)) kn.1.2.2) (fun w' hb => hK _ _ ⟨touch_below hb, (congrArg (fun n => Value.agg (BA n)) Hnx.out)⟩)⟩),
   (fun Q aq ww own hS hBg fr kn => .inl ⟨trivial, fun K hK => wp_value (lookb rfl fr.2.2.2.2.1 (obAt kn.1)) (hK _ _ ⟨Touch.refl _ _, rfl⟩)⟩),
   (fun Q aq ww own hS hBg fr kn => .inl ⟨trivial, fun K hK => wp_value (lookb rfl fr.2.2.1 (obAt kn.1)) (hK _ _ ⟨Touch.refl _ _, rfl⟩)⟩),
   (fun Q aq ww own hS hBg fr kn => .inl ⟨trivial, fun K hK => stepc1 enterOf rfl rfl (of_any 121665 ww hS.2 (by omega) (by omega)) (fun w' hb => hK _ _ ⟨touch_below hb, (congrArg (fun n => Value.agg (BA n)) Hmm.out)⟩)⟩),
   (fun Q aq ww own hS hBg fr kn => .inl ⟨trivial, fun K hK => wp_value (lookb rfl fr.2.2.2.2.1 (obAt kn.1)) (hK _ _ ⟨Touch.refl _ _, rfl⟩)⟩),
   (fun Q aq ww own hS hBg fr kn => .inl ⟨trivial, fun K hK => actb2 rfl kn.1 kn.2.1 (fun v hg hb => hK _ _ ⟨touch_below hb, _, Nat.le_refl _, rfl, obIn hg⟩)⟩),
   (fun Q aq ww own hS hBg fr kn => .inl ⟨trivial, fun K hK => stepc1 enterMul rfl kn.1.1 (mul2 mm ee _ ww Nmm Nee (rows2 (obAt kn.2.1)) kn.1.2.2) (fun w' hb => hK _ _ ⟨touch_below hb, (congrArg (fun n => Value.agg (BA n)) Ht1.out)⟩)⟩),
   (fun Q aq ww own hS hBg fr kn => .inl ⟨trivial, fun K hK => actb2 rfl kn.1 kn.2.1 (fun v hg hb => hK _ _ ⟨touch_below hb, _, Nat.le_refl _, rfl, obIn hg⟩)⟩),
   (fun Q aq ww own hS hBg fr kn => .inl ⟨trivial, fun K hK => stepc1 enterAdd rfl kn.1.1 (add2 aa t1 _ ww Naa Nt1 (rows2 (obAt kn.2.1)) kn.1.2.2) (fun w' hb => hK _ _ ⟨touch_below hb, (congrArg (fun n => Value.agg (BA n)) Ht2.out)⟩)⟩),
   (fun Q aq ww own hS hBg fr kn => .inl ⟨trivial, fun K hK => actb2 rfl kn.1 kn.2.1 (fun v hg hb => hK _ _ ⟨touch_below hb, _, Nat.le_refl _, rfl, obIn hg⟩)⟩),
   (fun Q aq ww own hS hBg fr kn => .inl ⟨trivial, fun K hK => stepc1 enterMul rfl kn.1.1 (mul2 ee t2 _ ww Nee Nt2 (rows2 (obAt kn.2.1)) kn.1.2.2) (fun w' hb => hK _ _ ⟨touch_below hb, (congrArg (fun n => Value.agg (BA n)) Hnz.out)⟩)⟩),
   (fun Q aq ww own hS hBg fr kn => .inl ⟨trivial, fun K hK => wp_value (lookb rfl fr.2.2.2.2.2.1 (obAt kn.1)) (hK _ _ ⟨Touch.refl _ _, rfl⟩)⟩),
   (fun Q aq ww own hS hBg fr kn => .inl ⟨trivial, fun K hK => wp_value (lookb rfl fr.2.2.2.2.2.1 (obAt kn.1)) (hK _ _ ⟨Touch.refl _ _, rfl⟩)⟩),
   (fun Q aq ww own hS hBg fr kn => .inl ⟨trivial, fun K hK => actb2 rfl kn.1 kn.2.1 (fun v hg hb => hK _ _ ⟨touch_below hb, _, Nat.le_refl _, rfl, obIn hg⟩)⟩),
   (fun Q aq ww own hS hBg fr kn => .inl ⟨trivial, fun K hK => stepc1 enterMul rfl kn.1.1 (mul2 sm sm _ ww Nsm Nsm (rows2 (obAt kn.2.1)) kn.1.2.2) (fun w' hb => hK _ _ ⟨touch_below hb, (congrArg (fun n => Value.agg (BA n)) Hnv.out)⟩)⟩),
   (fun Q aq ww own hS hBg fr kn => .inl ⟨trivial, fun K hK => wp_value (lookb rfl fr.1 (obAt kn.1)) (hK _ _ ⟨Touch.refl _ _, rfl⟩)⟩),
   (fun Q aq ww own hS hBg fr kn => .inl ⟨trivial, fun K hK => wp_value (lookb rfl fr.2.2.2.2.2.2.1 (obAt kn.1)) (hK _ _ ⟨Touch.refl _ _, rfl⟩)⟩),
   (fun Q aq ww own hS hBg fr kn => .inl ⟨trivial, fun K hK => wp_value (lookb rfl fr.2.2.2.2.2.2.1 (obAt kn.1)) (hK _ _ ⟨Touch.refl _ _, rfl⟩)⟩),
   (fun Q aq ww own hS hBg fr kn => .inl ⟨trivial, fun K hK => actb3 rfl kn.1 kn.2.1 kn.2.2.1 (fun v hg hb => hK _ _ ⟨touch_below hb, _, Nat.le_refl _, rfl, obIn hg⟩)⟩),
   (fun Q aq ww own hS hBg fr kn => .inl ⟨trivial, fun K hK => stepc1 enterMul rfl kn.1.1 (mul3 u rs rs _ ww Nu Nrs Nrs (rows3 (obAt kn.2.1)) kn.1.2.2) (fun w' hb => hK _ _ ⟨touch_below hb, (congrArg (fun n => Value.agg (BA n)) Hnw.out)⟩)⟩),
   (fun Q aq ww own hS hBg fr kn => .inl ⟨trivial, fun K hK => wp_value (exec_rung4 rfl kn.1 kn.2.1 kn.2.2.1 kn.2.2.2.1) (hK _ _ ⟨Touch.refl _ _, rfl⟩)⟩),
   (fun Q aq ww own hS hBg fr kn => .inl ⟨trivial, fun K hK => act_rungs rfl fr.2.1 kn.2.1 (obAt kn.1) (Q4_size _ _ _ _) (fun w2 hg ho => hK _ _ ⟨⟨touch_only ho, obIn hg⟩, trivial⟩)⟩),
   trivial⟩ ?_
 intro vs7 own v7 hK7 hs7 kn inj
 clear inj
 have g2_ := obAt kn.1
 have g3_ := obAt kn.2.1
 have g4_ := obAt kn.2.2.1
 have g5_ := obAt kn.2.2.2.1
 have g6_ := obAt kn.2.2.2.2.1
 have g7_ := obAt kn.2.2.2.2.2.1
 have g8_ := obAt kn.2.2.2.2.2.2.1
 have g9_ := obAt kn.2.2.2.2.2.2.2.1
 have g10_ := obAt kn.2.2.2.2.2.2.2.2.1
 have g11_ := obAt kn.2.2.2.2.2.2.2.2.2.1
 have g12_ := obAt kn.2.2.2.2.2.2.2.2.2.2.1
 have g13_ := obAt kn.2.2.2.2.2.2.2.2.2.2.2.1
 have g14_ := obAt kn.2.2.2.2.2.2.2.2.2.2.2.2.1
 have g15_ := obAt kn.2.2.2.2.2.2.2.2.2.2.2.2.2.1
 clear kn
 simp only [putAll, Act.put, List.setIfInBounds_toArray, List.set_cons_zero, List.set_cons_succ]
 replace hs : wd.heap.size + 3 ≤ v7.heap.size := by omega
 clear g2 g3 g4 g5 g6 g7 g8 g9 g10 g11 g12 g13 g14 g15 hs7
 have g2 := g2_
 clear g2_
 have g3 := g3_
 clear g3_
 have g4 := g4_
 clear g4_
 have g5 := g5_
 clear g5_
 have g6 := g6_
 clear g6_
 have g7 := g7_
 clear g7_
 have g8 := g8_
 clear g8_
 have g9 := g9_
 clear g9_
 have g10 := g10_
 clear g10_
 have g11 := g11_
 clear g11_
 have g12 := g12_
 clear g12_
 have g13 := g13_
 clear g13_
 have g14 := g14_
 clear g14_
 have g15 := g15_
 clear g15_
 clear hK
 have hK := hK7
 clear hK7
 clear own
 go_wp2
 exact bodyPost_ret (v := .agg (Q4 nx nz nv nw)) (results_cell_row rfl _ _ _ _ _ _ _ rfl g4 Tryz.underlying136 rfl (by rw [Q4_size]; exact info128r)) rfl
  ⟨⟨_, _, _, _, rfl, Nnx, Nnz, Nnv, Nnw, climb_link x z v w u a1 b1 c1 d1 aa bb ee da cb sm rs nx mm t1 t2 nz nv nw Ha1.out Hb1.out Hc1.out Hd1.out Haa.out Hbb.out Hda.out Hcb.out Hee.out Hsm.out Hrs.out Hnx.out Hmm.out Ht1.out Ht2.out Hnz.out Hnv.out Hnw.out⟩, hK.1⟩
end Go.Proofs.YthghcjepdhkfdaaGreatDoor.Fld

/-
  Own text. What Clamp, bitOf, swap and swapped of package curve give.
-/
namespace Go.Proofs.YthghcjepdhkfdaaGreatDoor.Fld
open Go.RowKit Go.Proofs
set_option maxRecDepth 100000
theorem xor_u8 (x y : Int) (h0 : 0 ≤ x) (h1 : x < 256) (k0 : 0 ≤ y) (k1 : y < 256) : bits BinOp.xor IntKind.u8 x y = ((x.toNat ^^^ y.toNat : Nat) : Int) := by go_bits2
theorem xor_lt256 {m n : Nat} (h : m < 256) (k : n < 256) : m ^^^ n < 256 := Nat.xor_lt_two_pow (n := 8) h k
theorem and255_u8 (x : Int) (h0 : 0 ≤ x) (h1 : x < 256) : bits BinOp.and IntKind.u8 255 x = x := by go_bits2
theorem and0_u8 (x : Int) (h0 : 0 ≤ x) (h1 : x < 256) : bits BinOp.and IntKind.u8 0 x = 0 := by rw [u8_and _ _ (by omega) (by omega) h0 h1]; simp
theorem and127_u8 (x : Int) (h0 : 0 ≤ x) (h1 : x < 256) : bits BinOp.and IntKind.u8 x 127 = x % 128 := by go_bits2
theorem and248_u8 (x : Int) (h0 : 0 ≤ x) (h1 : x < 256) : bits BinOp.and IntKind.u8 x 248 = x / 8 * 8 := by go_bits2
theorem or64_nat : ∀ n : Nat, n < 128 → n ||| 64 = n % 64 + 64 := by decide +kernel
theorem or64_u8 (x : Int) (h0 : 0 ≤ x) (h1 : x < 128) : bits BinOp.or IntKind.u8 x 64 = x % 64 + 64 := by
 rw [u8_or _ _ h0 (by omega) (by omega) (by omega)]
 have := or64_nat x.toNat (by omega)
 show ((x.toNat ||| 64 : Nat) : Int) = _
 rw [this]
 omega
set_option maxHeartbeats 1000000 in
set_option maxRecDepth 100000 in
theorem clamp_any (k : Int) (w : World) (hk : N256 k) :
  Calls Tryz.prog 99 #[.agg (BA k)] w fun e w' => e = .returned (.agg (BA (clampN k))) ∧ Below w.heap.size w w' := by
 have HC := Hid.mk (BA_clamp k hk)
 clear hk
 have h0 := byt_byte k 0
 have h31 := byt_byte k 31
 unfold Byte at h0 h31
 obtain ⟨h00, h01⟩ := h0
 obtain ⟨h310, h311⟩ := h31
 have c0 := BA_get k 0 (by omega)
 have c31 := BA_get k 31 (by omega)
 generalize byt k 0 = x0 at *
 generalize byt k 31 = x31 at *
 have e0 := and248_u8 x0 h00 h01
 have e1 := and127_u8 x31 h310 h311
 have e2 := or64_u8 (x31 % 128) (by omega) (by omega)
 rw [show x31 % 128 % 64 = x31 % 64 by omega] at e2
 go_enter Tryz.func99, Tryz.ntmps99
 go_wp2_with (first | (refine ld_bytes rfl _ rfl w.heap.size ((BA k).setIfInBounds 0 (.int .u8 (x0 / 8 * 8)) |>.setIfInBounds 31 (.int .u8 (x31 % 64 + 64))) rfl (heap_alloc2_old w _ _) (by simp [BA_size]) ?_; rw [HC.out]) | (refine st_bytesS (n := clampN k) (by rfl) (by rfl) (heap_alloc2_new w _ _) (by rfl) ?_; intro v3 g3 o3))
 exact bodyPost_ret (v := .agg (BA (clampN k))) (results_cell_row rfl _ _ _ _ _ _ _ rfl g3 Tryz.underlying22 rfl (by rw [BA_size]; exact info32)) rfl
  ⟨rfl, Below.trans (((Below.refl _ w).alloc (Nat.le_refl _) _).alloc (by simp) _) (Only.below (b := w.heap.size + 1) (B := w.heap.size) o3 (by omega))⟩
def bI (b : Bool) : Int := if b then 1 else 0
theorem key_bI (N : Int) (j : Nat) (h0 : 0 ≤ N) : bits BinOp.and IntKind.u8 (byt N ((254 - j) / 8) / 2 ^ ((254 - j) % 8)) 1 = bI (N.toNat.testBit (254 - j)) := by
 have hb := byt_byte N ((254 - j) / 8)
 unfold Byte at hb
 have hp : (0 : Int) < 2 ^ ((254 - j) % 8) := Int.pow_pos (by decide)
 have h1 : 0 ≤ byt N ((254 - j) / 8) / 2 ^ ((254 - j) % 8) := Int.ediv_nonneg hb.1 (by omega)
 have h2 : byt N ((254 - j) / 8) / 2 ^ ((254 - j) % 8) < 256 := by
  have := Int.ediv_le_self (2 ^ ((254 - j) % 8)) hb.1
  omega
 rw [and_one_u8 _ h1 h2, byt_bit N (254 - j) h0, Nat.testBit_eq_decide_div_mod_eq]
 generalize N.toNat / 2 ^ (254 - j) = G
 have hG : G % 2 = 0 ∨ G % 2 = 1 := by omega
 rcases hG with hG | hG <;> simp [hG, bI]
set_option maxHeartbeats 1000000 in
theorem bitOf_any (N : Int) (j : Nat) (w : World) (hN : 0 ≤ N) (hj : j < 255) :
  Calls Tryz.prog 102 #[.agg (BA N), .int .i64 (254 - (j : Int))] w fun e w' => e = .returned (.int .u8 (bI (N.toNat.testBit (254 - j)))) ∧ Below w.heap.size w w' := by
 have HB := Hid.mk (key_bI N j hN)
 have cb := BA_get N ((254 - j) / 8) (by omega)
 have hi1 : (0 : Int) ≤ 254 - (j : Int) := by omega
 have hq8 : IntKind.i64.wrap ((254 - (j : Int)).tdiv 8) = (((254 - j) / 8 : Nat) : Int) := by rw [IntKind.wrap_i64, Int.tdiv_eq_ediv_of_nonneg hi1]; omega
 have hr8 : (254 - (j : Int)).tmod 8 = (((254 - j) % 8 : Nat) : Int) := by rw [Int.tmod_eq_emod_of_nonneg hi1]; omega
 obtain ⟨q, hq⟩ : ∃ q : Nat, (254 - j) / 8 = q := ⟨_, rfl⟩
 obtain ⟨r, hr⟩ : ∃ r : Nat, (254 - j) % 8 = r := ⟨_, rfl⟩
 have hq32 : (q : Int) < 32 := by omega
 have hr64 : r < 8 := by omega
 rw [hq] at hq8 cb
 rw [hr] at hr8
 rw [hq, hr] at HB
 have hbq := byt_byte N q
 unfold Byte at hbq
 obtain ⟨hbq0, hbq1⟩ := hbq
 go_enter Tryz.func102, Tryz.ntmps102
 go_wp2
 rw [HB.out]
 go_ret
 exact ⟨rfl, (Below.refl _ w).alloc (Nat.le_refl _) _⟩
end Go.Proofs.YthghcjepdhkfdaaGreatDoor.Fld

/-
  Own text. What swap and swapped of package curve give.
-/
namespace Go.Proofs.YthghcjepdhkfdaaGreatDoor.Fld
open Go.RowKit Go.Proofs
set_option maxRecDepth 100000
def mI (b : Bool) : Int := if b then 255 else 0
theorem mask_u8 (b : Bool) : IntKind.u8.wrap (-(bI b)) = mI b := by cases b <;> decide
theorem swap_first (b : Bool) (x y : Int) (h0 : 0 ≤ x) (h1 : x < 256) (k0 : 0 ≤ y) (k1 : y < 256) : bits BinOp.xor IntKind.u8 x (bits BinOp.and IntKind.u8 (mI b) (bits BinOp.xor IntKind.u8 x y)) = tb b x y := by
 rw [xor_u8 x y h0 h1 k0 k1]
 have hl := xor_lt256 (m := x.toNat) (n := y.toNat) (by omega) (by omega)
 cases b
 ·simp only [mI, tb, Bool.false_eq_true, if_false]
  rw [and0_u8 _ (by omega) (by omega), xor_u8 x 0 h0 h1 (by omega) (by omega)]
  simp; omega
 ·simp only [mI, tb, if_true]
  rw [and255_u8 _ (by omega) (by omega), xor_u8 x _ h0 h1 (by omega) (by omega)]
  simp only [Int.toNat_natCast]
  rw [← Nat.xor_assoc, Nat.xor_self, Nat.zero_xor]; omega
theorem swap_second (b : Bool) (x y : Int) (h0 : 0 ≤ x) (h1 : x < 256) (k0 : 0 ≤ y) (k1 : y < 256) : bits BinOp.xor IntKind.u8 y (bits BinOp.and IntKind.u8 (mI b) (bits BinOp.xor IntKind.u8 x y)) = tb b y x := by
 rw [xor_u8 x y h0 h1 k0 k1, Nat.xor_comm, ← xor_u8 y x k0 k1 h0 h1]
 exact swap_first b y x k0 k1 h0 h1
theorem below_G {wd : World} {G : List (Nat × Cont)} {B : Nat} (hB : wd.heap.size ≤ B) (hG : GLow wd.heap.size G) (w w' : World) (h : Below wd.heap.size wd w) (ht : Touch (fun k => B ≤ k ∨ k ∈ G.map (·.1)) w w') : Below wd.heap.size wd w' :=
 h.trans ⟨ht.os, ht.tape, ht.output, ht.size, fun k hk => ht.block k (Nat.lt_of_lt_of_le hk h.size) (fun e => e.elim (fun e => by omega) (fun e => by have := hG.at k e; omega))⟩
theorem results_cells2 {P : Program} {fn : Func} {p q : Tmp} {ty ty' : TypeId} (h : fn.results = #[.cell p ty, .cell q ty']) (tmps : Array Value) (w : World) (g g' : Nat)
  (hp : tmps.getD p undef = .pointer (some ⟨g, 0, none⟩)) (hq : tmps.getD q undef = .pointer (some ⟨g', 0, none⟩)) {t t' : TypeId} {fr fr' : Nat × Nat} {d d' : TypeDesc} (cs cs' : Array Value) (hg : w.heap[g]? = some (.cells cs t fr)) (hg' : w.heap[g']? = some (.cells cs' t' fr'))
  (hi : (P.info? ty).map (·.size) = some cs.size) (hi' : (P.info? ty').map (·.size) = some cs'.size)
  (hu : P.underlying ty = some d) (hd : (match d with | .struct _ | .array _ _ => true | _ => false) = true)
  (hu' : P.underlying ty' = some d') (hd' : (match d' with | .struct _ | .array _ _ => true | _ => false) = true) :
  (results fn tmps).run P w = .ok (.tuple #[.agg cs, .agg cs']) w := by
 have hp' : tmps[p]?.getD undef = .pointer (some ⟨g, 0, none⟩) := by simpa using hp
 have hq' : tmps[q]?.getD undef = .pointer (some ⟨g', 0, none⟩) := by simpa using hq
 simp [results, h, hp', hq', asAddr, run_loadVar_row w g t ty cs fr d hg hu hd hi, run_loadVar_row w g' t' ty' cs' fr' d' hg' hu' hd' hi']
theorem byt_tb (b : Bool) (p q : Int) (j : Nat) : tb b (byt p j) (byt q j) = byt (tb b p q) j := by cases b <;> rfl
theorem mix_next {cs : Array Value} {b : Bool} {p q : Int} {k : Nat} (hk : k < 32) (hs : cs.size = 32) (h : ∀ j, j < 32 → cs[j]? = some (.int .u8 (byt (if j < k then tb b p q else p) j))) :
  ∀ j, j < 32 → (cs.setIfInBounds k (.int .u8 (tb b (byt p k) (byt q k))))[j]? = some (.int .u8 (byt (if j < k + 1 then tb b p q else p) j)) := by
 intro j hj
 rw [Array.getElem?_setIfInBounds]
 by_cases e : k = j
 ·subst e
  simp only [if_true, hs, hk, byt_tb]
  rw [if_pos (by omega)]
 ·rw [if_neg e, h j hj]
  by_cases hl : j < k
  ·rw [if_pos hl, if_pos (by omega)]
  ·rw [if_neg hl, if_neg (by omega)]
set_option maxHeartbeats 1000000 in
set_option maxRecDepth 100000 in
theorem swap_any (b : Bool) (p q : Int) (w : World) :
  Calls Tryz.prog 165 #[.int .u8 (bI b), .agg (BA p), .agg (BA q)] w fun e w' => e = .returned (.tuple #[.agg (BA (tb b p q)), .agg (BA (tb b q p))]) ∧ Below w.heap.size w w' := by
 have hmask := mask_u8 b
 go_enter Tryz.func165, Tryz.ntmps165
 go_wp2
 go_loopg [13] 32 (fun m i v => ∃ (k : Nat) (cs ds : Array Value), Hid (m + k = 32) ∧ i = .int .i64 k ∧ cs.size = 32 ∧ ds.size = 32 ∧ Hid (∀ j, j < 32 → cs[j]? = some (.int .u8 (byt (if j < k then tb b p q else p) j))) ∧ Hid (∀ j, j < 32 → ds[j]? = some (.int .u8 (byt (if j < k then tb b q p else q) j))) ∧
  v.heap[w.heap.size]? = some (.cells cs 22 (0, 0)) ∧ v.heap[w.heap.size + 1]? = some (.cells ds 22 (0, 0)) ∧ v.heap[w.heap.size + 1 + 1]? = some (.cells (BA 0) 22 (0, 0)) ∧ v.heap[w.heap.size + 1 + 1 + 1]? = some (.cells (BA 0) 22 (0, 0)) ∧ Below w.heap.size w v)
 case atStart =>
  refine ⟨0, BA p, BA q, Hid.mk rfl, rfl, BA_size p, BA_size q, Hid.mk (fun j hj => by rw [if_neg (by omega)]; exact BA_get p j hj), Hid.mk (fun j hj => by rw [if_neg (by omega)]; exact BA_get q j hj), ?_, ?_, ?_, ?_, ?_⟩
  ·exact (Below.heap_alloc _ _ _ (by simp <;> omega)).trans (heap_a31 w _ _ _)
  ·exact (Below.heap_alloc _ _ _ (by simp <;> omega)).trans (heap_a32 w _ _ _)
  ·exact (Below.heap_alloc _ _ _ (by simp <;> omega)).trans (heap_a3 w _ _ _)
  ·exact heap_a4r w _ _ _ _
  ·repeat first | exact Below.refl _ _ | refine Below.alloc ?_ (by simp <;> omega) _
 case round =>
  obtain ⟨k, cs, ds, HJ, rfl, sc, sd, HC, HD, g1, g2, g3, g4, hB⟩ := hrel
  have hk32 : k ≤ 32 := by have := HJ.out; omega
  by_cases hk : k < 32
  ·have ca := (cell_of_row wr w.heap.size k _ _ _ g1).trans (HC.out k hk)
   have cd := (cell_of_row wr (w.heap.size + 1) k _ _ _ g2).trans (HD.out k hk)
   rw [if_neg (by omega)] at ca cd
   have fa := frozen_of_row wr w.heap.size k _ _ g1
   have fb := frozen_of_row wr (w.heap.size + 1) k _ _ g2
   have NC := Hid.mk (mix_next hk sc HC.out)
   have ND := Hid.mk (mix_next hk sd HD.out)
   have hx := byt_byte p k
   have hy := byt_byte q k
   unfold Byte at hx hy
   have e1 := swap_first b (byt p k) (byt q k) hx.1 hx.2 hy.1 hy.2
   have e2 := swap_second b (byt p k) (byt q k) hx.1 hx.2 hy.1 hy.2
   generalize byt p k = x at *
   generalize byt q k = y at *
   obtain ⟨d, hd⟩ : ∃ d, bits BinOp.and IntKind.u8 (mI b) (bits BinOp.xor IntKind.u8 x y) = d := ⟨_, rfl⟩
   rw [hd] at e1 e2
   go_wp2_with fail
   go_region
   go_wp2
   go_roundg (32 - (k + 1))
   case rel =>
    exact ⟨k + 1, cs.setIfInBounds k (.int .u8 (tb b x y)), ds.setIfInBounds k (.int .u8 (tb b y x)), Hid.mk (by omega), by go_num, by simp [sc], by simp [sd], NC, ND,
     (heap_setCell_other _ _ _ _ (by simp <;> omega)).trans (heap_setCell_same _ _ _ _ _ _ g1), heap_setCell_same _ _ _ _ _ _ ((heap_setCell_other _ _ _ _ (by simp <;> omega)).trans g2),
     (heap_setCell_other _ _ _ _ (by simp <;> omega)).trans ((heap_setCell_other _ _ _ _ (by simp <;> omega)).trans g3), (heap_setCell_other _ _ _ _ (by simp <;> omega)).trans ((heap_setCell_other _ _ _ _ (by simp <;> omega)).trans g4),
     Below.setCell (Below.setCell (Below.drew hB) (by simp <;> omega) _) (by simp <;> omega) _⟩
   case measure => have := HJ.out; omega
  ·have hk2 : k = 32 := by omega
   subst hk2
   have ec : cs = BA (tb b p q) := BA_ext sc (fun j hj => by rw [HC.out j hj, if_pos hj])
   have ed : ds = BA (tb b q p) := BA_ext sd (fun j hj => by rw [HD.out j hj, if_pos hj])
   subst ec ed
   clear HC HD sc sd
   go_wp2_with fail
   refine wp_region3 (Below w.heap.size w) wr.heap.size
    [(w.heap.size, fixd (BA (tb b p q)) 22), ((w.heap.size + 1), fixd (BA (tb b q p)) 22), ((w.heap.size + 1 + 1), once (BA 0) 22 2 (BA (tb b p q))), ((w.heap.size + 1 + 1 + 1), once (BA 0) 22 3 (BA (tb b q p)))]
    [kv (.agg (BA (tb b p q))), kv (.agg (BA (tb b q p))), .val fun _ => True, .val fun _ => True]
    [.none, .none, .base 2 1, .base 3 1]
    [some 38, some 39, none, none]
    [(4, .pointer (some ⟨w.heap.size, 0, none⟩)), (5, .pointer (some ⟨(w.heap.size + 1), 0, none⟩)), (6, .pointer (some ⟨(w.heap.size + 1 + 1), 0, none⟩)), (7, .pointer (some ⟨(w.heap.size + 1 + 1 + 1), 0, none⟩))]
    [[.base 0 0], [.base 1 0], [.base 2 0, .slot 0], [.base 3 0, .slot 1]]
    [.base 2 1, .base 3 1] [38, 39]
    rfl (by kernel_rfl) ⟨rfl, rfl, rfl, rfl, trivial⟩ (Below.drew hB) (Nat.le_refl _) ⟨⟨heap_lt g1, obIn g1⟩, ⟨heap_lt g2, obIn g2⟩, ⟨heap_lt g3, obIn g3⟩, ⟨heap_lt g4, obIn g4⟩, trivial⟩ ⟨⟨trivial, (show (w.heap.size : Nat) ≠ (w.heap.size + 1 + 1) from by omega), (show (w.heap.size : Nat) ≠ (w.heap.size + 1 + 1 + 1) from by omega), trivial⟩, ⟨(show ((w.heap.size + 1) : Nat) ≠ (w.heap.size + 1 + 1) from by omega), (show ((w.heap.size + 1) : Nat) ≠ (w.heap.size + 1 + 1 + 1) from by omega), trivial⟩, ⟨(show ((w.heap.size + 1 + 1) : Nat) ≠ (w.heap.size + 1 + 1 + 1) from by omega), trivial⟩, trivial, trivial⟩ (below_G hB.size ⟨by omega, by omega, by omega, by omega, trivial⟩)
    ⟨
     (fun Q aq ww own hS hBg fr kn => .inl ⟨trivial, fun K hK => wp_value (lookb rfl fr.1 (obAt kn.1)) (hK _ _ ⟨Touch.refl _ _, rfl⟩)⟩),
     (fun Q aq ww own hS hBg fr kn => .inl ⟨trivial, fun K hK => wp_value (lookb rfl fr.2.1 (obAt kn.1)) (hK _ _ ⟨Touch.refl _ _, rfl⟩)⟩),
     (fun Q aq ww own hS hBg fr kn => .inl ⟨trivial, fun K hK => actbytes rfl fr.2.2.1 kn.2.1 (obAt kn.1) (fun w2 hg ho => hK _ _ ⟨⟨touch_only ho, obIn hg⟩, trivial⟩)⟩),
     (fun Q aq ww own hS hBg fr kn => .inl ⟨trivial, fun K hK => actbytes rfl fr.2.2.2.1 kn.2.1 (obAt kn.1) (fun w2 hg ho => hK _ _ ⟨⟨touch_only ho, obIn hg⟩, trivial⟩)⟩),
     trivial⟩ ?_
   intro vs own v9 hB9 hs9 kn inj
   have g6 := obAt kn.1
   have g7 := obAt kn.2.1
   simp only [putAll, Act.put, List.setIfInBounds_toArray, List.set_cons_zero, List.set_cons_succ]
   go_wp2
   exact bodyPost_ret (v := .tuple #[.agg (BA (tb b p q)), .agg (BA (tb b q p))]) (results_cells2 rfl _ _ _ _ rfl rfl _ _ g6 g7 (by rw [BA_size]; exact info32) (by rw [BA_size]; exact info32) Tryz.underlying22 rfl Tryz.underlying22 rfl) rfl ⟨rfl, hB9⟩
end Go.Proofs.YthghcjepdhkfdaaGreatDoor.Fld

/-
  Own text. A row of 32 bytes stored into one of four; what swapped of package curve gives.
-/
namespace Go.Proofs.YthghcjepdhkfdaaGreatDoor.Fld
open Go.RowKit Go.Proofs
set_option maxRecDepth 100000
theorem setCells_heap {b : Nat} {t : TypeId} : ∀ (vs : List Value) (o : Nat) (w : World) (C : Array Value), w.heap[b]? = some (.cells C t (0, 0)) → o + vs.length ≤ C.size →
  ∃ C' : Array Value, (w.setCells b o vs).heap[b]? = some (.cells C' t (0, 0)) ∧ C'.size = C.size ∧ (∀ j, j < vs.length → C'[o + j]? = vs[j]?) ∧ (∀ j, j < o ∨ o + vs.length ≤ j → C'[j]? = C[j]?) ∧ Only b w (w.setCells b o vs)
 | [], _, w, C, hg, _ => ⟨C, hg, rfl, fun j hj => by simp at hj, fun _ _ => rfl, Only.refl b w⟩
 | x :: vs, o, w, C, hg, hl => by
  simp only [List.length_cons] at hl
  obtain ⟨C', h1, h2, h3, h4, h5⟩ := setCells_heap vs (o + 1) (w.setCell ⟨b, o, none⟩ x) (C.setIfInBounds o x) (heap_setCell_same w b o C t x hg) (by simp; omega)
  refine ⟨C', h1, by rw [h2]; simp, fun j hj => ?_, fun j hj => ?_, ?_⟩
  ·cases j with
   | zero =>
    rw [Nat.add_zero, h4 o (.inl (by omega)), Array.getElem?_setIfInBounds]
    simp
    omega
   | succ j =>
    simp only [List.length_cons] at hj
    have := h3 j (by omega)
    rw [show o + 1 + j = o + (j + 1) by omega] at this
    rw [this]; simp
  ·simp only [List.length_cons] at hj
   rw [h4 j (by omega), Array.getElem?_setIfInBounds, if_neg (by omega)]
  ·have o1 := (Only.refl b w).setCell o x
   exact ⟨h5.os.trans o1.os, h5.tape.trans o1.tape, h5.output.trans o1.output, h5.size.trans o1.size, fun k hk => (h5.block k hk).trans (o1.block k hk)⟩
theorem Q4_ext {cs : Array Value} {x z v w : Int} (hs : cs.size = 128) (h0 : ∀ j, j < 32 → cs[j]? = (BA x)[j]?) (h1 : ∀ j, j < 32 → cs[32 + j]? = (BA z)[j]?) (h2 : ∀ j, j < 32 → cs[64 + j]? = (BA v)[j]?) (h3 : ∀ j, j < 32 → cs[96 + j]? = (BA w)[j]?) : cs = Q4 x z v w := by
 apply Array.ext_getElem?
 intro i
 by_cases a0 : i < 32
 ·rw [h0 i a0, Q4_0 x z v w i a0]
 ·by_cases a1 : i < 64
  ·have := h1 (i - 32) (by omega)
   have e := Q4_1 x z v w (i - 32) (by omega)
   rw [show 32 + (i - 32) = i by omega] at this e
   rw [this, e]
  ·by_cases a2 : i < 96
   ·have := h2 (i - 64) (by omega)
    have e := Q4_2 x z v w (i - 64) (by omega)
    rw [show 64 + (i - 64) = i by omega] at this e
    rw [this, e]
   ·by_cases a3 : i < 128
    ·have := h3 (i - 96) (by omega)
     have e := Q4_3 x z v w (i - 96) (by omega)
     rw [show 96 + (i - 96) = i by omega] at this e
     rw [this, e]
    ·rw [Array.getElem?_eq_none (by omega), Array.getElem?_eq_none (by rw [Q4_size]; omega)]
theorem there_row {w : World} {b o n : Nat} {C : Array Value} {t : TypeId} (hg : w.heap[b]? = some (.cells C t (0, 0))) (h : o + n ≤ C.size) : w.there b o n := fun j hj => by
 refine ⟨?_, frozen_of_row w b (o + j) _ _ hg⟩
 rw [cell_of_row w b (o + j) _ _ _ hg, Array.getElem?_eq_getElem (by omega)]
 rfl
theorem st_in {ops : Array Oper} {rest : List Oper} {d : Option Tmp} {X Y : Operand} {t : TypeId} {ps : String} {af : Array Edge} {a : Act} {wd : World} {Q : Exit → Act → World → Prop} {g o : Nat} {n : Int} {C : Array Value} {ty : TypeId}
  (hx : a.eval X = .pointer (some ⟨g, o, none⟩)) (hy : a.eval Y = .agg (BA n)) (hg : wd.heap[g]? = some (.cells C ty (0, 0))) (ho : o + 32 ≤ C.size)
  (h : ∀ w2 C', w2.heap[g]? = some (.cells C' ty (0, 0)) → C'.size = C.size → (∀ j, j < 32 → C'[o + j]? = (BA n)[j]?) → (∀ j, j < o ∨ o + 32 ≤ j → C'[j]? = C[j]?) → Only g wd w2 → wpList Tryz.prog ops Q rest (a.put d undef) w2) :
  wpList Tryz.prog ops Q ({ dst := d, op := .store 22 X Y, type := t, pos := ps, after := af, guard := none } :: rest) a wd := by
 have hl : (BA n).toList.length = 32 := by rw [Array.length_toList, BA_size]
 obtain ⟨C', h1, h2, h3, h4, h5⟩ := setCells_heap (b := g) (BA n).toList o wd C hg (by omega)
 rw [hl] at h3 h4
 exact wpList_store_mid rfl 22 X Y rfl g o (BA n) hx hy (there_row hg (by rw [BA_size]; exact ho)) (by rw [BA_size]; exact info32) (BA_one n)
  (h _ C' h1 h2 (fun j hj => by rw [h3 j hj]; simp) h4 h5)
theorem st_f0 {ops : Array Oper} {rest : List Oper} {d : Option Tmp} {X Y : Operand} {t : TypeId} {ps : String} {af : Array Edge} {a : Act} {wd : World} {Q : Exit → Act → World → Prop} {g : Nat} {n x z v w : Int} {ty : TypeId}
  (hx : a.eval X = .pointer (some ⟨g, 0, none⟩)) (hy : a.eval Y = .agg (BA n)) (hg : wd.heap[g]? = some (.cells (Q4 x z v w) ty (0, 0)))
  (h : ∀ w2, w2.heap[g]? = some (.cells (Q4 n z v w) ty (0, 0)) → Only g wd w2 → wpList Tryz.prog ops Q rest (a.put d undef) w2) :
  wpList Tryz.prog ops Q ({ dst := d, op := .store 22 X Y, type := t, pos := ps, after := af, guard := none } :: rest) a wd :=
 st_in hx hy hg (by rw [Q4_size]; omega) (fun w2 C' g2 s2 hin hout o2 => h w2 (by
  have e := Q4_ext (cs := C') (by rw [s2, Q4_size]) (fun j hj => by have := hin j hj; rwa [Nat.zero_add] at this) (fun j hj => by rw [hout _ (by omega)]; exact Q4_1 x z v w j hj) (fun j hj => by rw [hout _ (by omega)]; exact Q4_2 x z v w j hj) (fun j hj => by rw [hout _ (by omega)]; exact Q4_3 x z v w j hj)
  rw [e] at g2
  exact g2) o2)
theorem st_f1 {ops : Array Oper} {rest : List Oper} {d : Option Tmp} {X Y : Operand} {t : TypeId} {ps : String} {af : Array Edge} {a : Act} {wd : World} {Q : Exit → Act → World → Prop} {g : Nat} {n x z v w : Int} {ty : TypeId}
  (hx : a.eval X = .pointer (some ⟨g, 32, none⟩)) (hy : a.eval Y = .agg (BA n)) (hg : wd.heap[g]? = some (.cells (Q4 x z v w) ty (0, 0)))
  (h : ∀ w2, w2.heap[g]? = some (.cells (Q4 x n v w) ty (0, 0)) → Only g wd w2 → wpList Tryz.prog ops Q rest (a.put d undef) w2) :
  wpList Tryz.prog ops Q ({ dst := d, op := .store 22 X Y, type := t, pos := ps, after := af, guard := none } :: rest) a wd :=
 st_in hx hy hg (by rw [Q4_size]; omega) (fun w2 C' g2 s2 hin hout o2 => h w2 (by
  have e := Q4_ext (cs := C') (by rw [s2, Q4_size]) (fun j hj => by rw [hout _ (by omega)]; exact Q4_0 x z v w j hj) hin (fun j hj => by rw [hout _ (by omega)]; exact Q4_2 x z v w j hj) (fun j hj => by rw [hout _ (by omega)]; exact Q4_3 x z v w j hj)
  rw [e] at g2
  exact g2) o2)
theorem st_f2 {ops : Array Oper} {rest : List Oper} {d : Option Tmp} {X Y : Operand} {t : TypeId} {ps : String} {af : Array Edge} {a : Act} {wd : World} {Q : Exit → Act → World → Prop} {g : Nat} {n x z v w : Int} {ty : TypeId}
  (hx : a.eval X = .pointer (some ⟨g, 64, none⟩)) (hy : a.eval Y = .agg (BA n)) (hg : wd.heap[g]? = some (.cells (Q4 x z v w) ty (0, 0)))
  (h : ∀ w2, w2.heap[g]? = some (.cells (Q4 x z n w) ty (0, 0)) → Only g wd w2 → wpList Tryz.prog ops Q rest (a.put d undef) w2) :
  wpList Tryz.prog ops Q ({ dst := d, op := .store 22 X Y, type := t, pos := ps, after := af, guard := none } :: rest) a wd :=
 st_in hx hy hg (by rw [Q4_size]; omega) (fun w2 C' g2 s2 hin hout o2 => h w2 (by
  have e := Q4_ext (cs := C') (by rw [s2, Q4_size]) (fun j hj => by rw [hout _ (by omega)]; exact Q4_0 x z v w j hj) (fun j hj => by rw [hout _ (by omega)]; exact Q4_1 x z v w j hj) hin (fun j hj => by rw [hout _ (by omega)]; exact Q4_3 x z v w j hj)
  rw [e] at g2
  exact g2) o2)
theorem st_f3 {ops : Array Oper} {rest : List Oper} {d : Option Tmp} {X Y : Operand} {t : TypeId} {ps : String} {af : Array Edge} {a : Act} {wd : World} {Q : Exit → Act → World → Prop} {g : Nat} {n x z v w : Int} {ty : TypeId}
  (hx : a.eval X = .pointer (some ⟨g, 96, none⟩)) (hy : a.eval Y = .agg (BA n)) (hg : wd.heap[g]? = some (.cells (Q4 x z v w) ty (0, 0)))
  (h : ∀ w2, w2.heap[g]? = some (.cells (Q4 x z v n) ty (0, 0)) → Only g wd w2 → wpList Tryz.prog ops Q rest (a.put d undef) w2) :
  wpList Tryz.prog ops Q ({ dst := d, op := .store 22 X Y, type := t, pos := ps, after := af, guard := none } :: rest) a wd :=
 st_in hx hy hg (by rw [Q4_size]; omega) (fun w2 C' g2 s2 hin hout o2 => h w2 (by
  have e := Q4_ext (cs := C') (by rw [s2, Q4_size]) (fun j hj => by rw [hout _ (by omega)]; exact Q4_0 x z v w j hj) (fun j hj => by rw [hout _ (by omega)]; exact Q4_1 x z v w j hj) (fun j hj => by rw [hout _ (by omega)]; exact Q4_2 x z v w j hj) hin
  rw [e] at g2
  exact g2) o2)
set_option maxHeartbeats 1000000 in
set_option maxRecDepth 100000 in
theorem swapped_any (b : Bool) (x z v w : Int) (wd : World) :
  Calls Tryz.prog 134 #[.agg (Q4 x z v w), .int .u8 (bI b)] wd fun e w' => e = .returned (.agg (Q4 (tb b x v) (tb b z w) (tb b v x) (tb b w z))) ∧ Below wd.heap.size wd w' := by
 have hzero := zero_rungs
 go_enter Tryz.func134, Tryz.ntmps134
 go_wp2_with (first
  | (refine ld_mid rfl _ rfl wd.heap.size 0 x rfl (range_in (heap_alloc2_old wd _ _) (fun j hj => by rw [Nat.zero_add]; exact Q4_0 x z v w j hj)) ?_)
  | (refine ld_mid rfl _ rfl wd.heap.size 64 v rfl (range_in (heap_alloc2_old wd _ _) (Q4_2 x z v w)) ?_))
 have g2 : (((wd.alloc (.cells (Q4 x z v w) 136 (0, 0))).alloc (.cells (Q4 0 0 0 0) 136 (0, 0)))).heap[wd.heap.size]? = some (.cells (Q4 x z v w) 136 (0, 0)) := heap_alloc2_old wd _ _
 have g4 : (((wd.alloc (.cells (Q4 x z v w) 136 (0, 0))).alloc (.cells (Q4 0 0 0 0) 136 (0, 0)))).heap[wd.heap.size + 1]? = some (.cells (Q4 0 0 0 0) 136 (0, 0)) := heap_alloc2_new wd _ _
 have hB : Below wd.heap.size wd ((wd.alloc (.cells (Q4 x z v w) 136 (0, 0))).alloc (.cells (Q4 0 0 0 0) 136 (0, 0))) := by repeat first | exact Below.refl _ _ | refine Below.alloc ?_ (by simp <;> omega) _
 clear hzero
 refine (swap_any b x v _).mono ?_
 rintro e v1 ⟨rfl, hb⟩
 replace g2 := bheap hb g2 (heap_lt g2)
 replace g4 := bheap hb g4 (heap_lt g4)
 replace hB := Below.trans hB (hb.mono hB.size)
 clear hb
 go_wp2_with (refine st_f0 (g := wd.heap.size) (n := tb b x v) (x := x) (z := z) (v := v) (w := w) (by rfl) (by rfl) g2 ?_; intro v2 g22 o2; refine Hid.out ?_)
 clear g2
 have g2 := g22
 clear g22
 replace g4 := (o2.block _ (by omega)).trans g4
 replace hB := Below.trans hB (Only.below (b := wd.heap.size) (B := wd.heap.size) o2 (Nat.le_refl _))
 clear o2
 refine Hid.mk ?_
 go_wp2_with (refine st_f2 (g := wd.heap.size) (n := tb b v x) (x := tb b x v) (z := z) (v := v) (w := w) (by rfl) (by rfl) g2 ?_; intro v3 g22 o2; refine Hid.out ?_)
 clear g2
 have g2 := g22
 clear g22
 replace g4 := (o2.block _ (by omega)).trans g4
 replace hB := Below.trans hB (Only.below (b := wd.heap.size) (B := wd.heap.size) o2 (Nat.le_refl _))
 clear o2
 refine Hid.mk ?_
 go_wp2_with (first
  | (refine ld_mid rfl _ rfl wd.heap.size 32 z rfl (range_in g2 (Q4_1 _ z _ w)) ?_)
  | (refine ld_mid rfl _ rfl wd.heap.size 96 w rfl (range_in g2 (Q4_3 _ z _ w)) ?_))
 refine (swap_any b z w _).mono ?_
 rintro e v4 ⟨rfl, hb⟩
 replace g2 := bheap hb g2 (heap_lt g2)
 replace g4 := bheap hb g4 (heap_lt g4)
 replace hB := Below.trans hB (hb.mono hB.size)
 clear hb
 go_wp2_with (refine st_f1 (g := wd.heap.size) (n := tb b z w) (x := tb b x v) (z := z) (v := tb b v x) (w := w) (by rfl) (by rfl) g2 ?_; intro v5 g22 o2; refine Hid.out ?_)
 clear g2
 have g2 := g22
 clear g22
 replace g4 := (o2.block _ (by omega)).trans g4
 replace hB := Below.trans hB (Only.below (b := wd.heap.size) (B := wd.heap.size) o2 (Nat.le_refl _))
 clear o2
 refine Hid.mk ?_
 go_wp2_with (refine st_f3 (g := wd.heap.size) (n := tb b w z) (x := tb b x v) (z := tb b z w) (v := tb b v x) (w := w) (by rfl) (by rfl) g2 ?_; intro v6 g22 o2; refine Hid.out ?_)
 clear g2
 have g2 := g22
 clear g22
 replace g4 := (o2.block _ (by omega)).trans g4
 replace hB := Below.trans hB (Only.below (b := wd.heap.size) (B := wd.heap.size) o2 (Nat.le_refl _))
 clear o2
 refine Hid.mk ?_
 go_wp2_with (first
  | (refine ld_rungs rfl _ rfl wd.heap.size (tb b x v) (tb b z w) (tb b v x) (tb b w z) rfl g2 ?_)
  | (refine st_rungs (g := wd.heap.size + 1) (x := tb b x v) (z := tb b z w) (v := tb b v x) (w := tb b w z) (old := Q4 0 0 0 0) (by rfl) (by rfl) g4 (Q4_size 0 0 0 0) ?_; intro w3 g3 o3))
 exact bodyPost_ret (v := .agg (Q4 (tb b x v) (tb b z w) (tb b v x) (tb b w z))) (results_cell_row rfl _ _ _ _ _ _ _ rfl g3 Tryz.underlying136 rfl (by rw [Q4_size]; exact info128r)) rfl
  ⟨rfl, Below.trans hB (Only.below (b := wd.heap.size + 1) (B := wd.heap.size) o3 (by omega))⟩
end Go.Proofs.YthghcjepdhkfdaaGreatDoor.Fld

/-
  Own text. What step and Times of package curve give: the ladder's step, X25519 as a number.
-/
namespace Go.Proofs.YthghcjepdhkfdaaGreatDoor.Fld
open Go.RowKit Go.Proofs
set_option maxRecDepth 100000
def RG (q : Qd pN) (V : Value) : Prop := ∃ x z v w, V = .agg (Q4 x z v w) ∧ N256 x ∧ N256 z ∧ N256 v ∧ N256 w ∧ QI x z v w = q
def RGo (q : Qd pN) (ob : Obj) : Prop := ∃ x z v w, ob = .cells (Q4 x z v w) 136 (0, 0) ∧ N256 x ∧ N256 z ∧ N256 v ∧ N256 w ∧ QI x z v w = q
theorem RG_of (x z v w : Int) (hx : N256 x) (hz : N256 z) (hv : N256 v) (hw : N256 w) : RG (QI x z v w) (.agg (Q4 x z v w)) := ⟨x, z, v, w, rfl, hx, hz, hv, hw, rfl⟩
theorem turn_QI (b : Bool) (x z v w : Int) : QI (tb b x v) (tb b z w) (tb b v x) (tb b w z) = Qd.turn b (QI x z v w) := by cases b <;> rfl
theorem swapped_rg (b : Bool) (q : Qd pN) (V : Value) (hV : RG q V) (wd : World) :
  Calls Tryz.prog 134 #[V, .int .u8 (bI b)] wd fun e w' => ∃ v, e = .returned v ∧ RG (Qd.turn b q) v ∧ Below wd.heap.size wd w' := by
 obtain ⟨x, z, v, w, rfl, hx, hz, hv, hw, rfl⟩ := hV
 refine (swapped_any b x z v w wd).mono ?_
 rintro e w' ⟨rfl, hb⟩
 exact ⟨_, rfl, ⟨_, _, _, _, rfl, tb_256 hx hv, tb_256 hz hw, tb_256 hv hx, tb_256 hw hz, turn_QI b x z v w⟩, hb⟩
theorem climbed_rg (u : Int) (q : Qd pN) (V : Value) (hV : RG q V) (wd : World) (hP : PrimeAt wd) (Nu : N256 u) :
  Calls Tryz.prog 135 #[V, .agg (BA u)] wd fun e w' => ∃ v, e = .returned v ∧ RG (Qd.core kN (ofI u) q) v ∧ Below wd.heap.size wd w' := by
 obtain ⟨x, z, v, w, rfl, hx, hz, hv, hw, rfl⟩ := hV
 refine (climbed_any x z v w u wd hP hx hz hv hw Nu).mono ?_
 rintro e w' ⟨⟨x', z', v', w2, rfl, h1, h2, h3, h4, h5⟩, hb⟩
 exact ⟨_, rfl, ⟨_, _, _, _, rfl, h1, h2, h3, h4, h5⟩, hb⟩
theorem stepp2 {f : FuncId} (hc : ∀ args w, (callFunc f args).run Tryz.prog w = .ok (.enter f args) w) {x y : Operand} {ts : Array TypeId} {o : Oper} {a : Act} {w : World} {K : Act → World → Prop} {Q : Exit → Act → World → Prop} {p : Value → Prop}
  (ho : o.op = .call { callee := .value (.func f), args := #[x, y], argTypes := ts }) {V V2 : Value} (hx : a.eval x = V) (hy : a.eval y = V2) (hC : Calls Tryz.prog f #[V, V2] w fun r w' => ∃ v, r = .returned v ∧ p v ∧ Below w.heap.size w w')
  (h : ∀ v w', p v → Below w.heap.size w w' → K (a.put o.dst v) w') : o.wp Tryz.prog a w K Q := by
 refine wp_enter (exec_call hc #[x, y] ts ho) ?_
 simp only [List.map_toArray, List.map_cons, List.map_nil, hx, hy]
 exact hC.mono (fun e w' ⟨v, he, hp, hb⟩ => ⟨v, he, h v w' hp hb⟩)
theorem stepp3 {f : FuncId} (hc : ∀ args w, (callFunc f args).run Tryz.prog w = .ok (.enter f args) w) {x y z : Operand} {ts : Array TypeId} {o : Oper} {a : Act} {w : World} {K : Act → World → Prop} {Q : Exit → Act → World → Prop} {p : Value → Prop}
  (ho : o.op = .call { callee := .value (.func f), args := #[x, y, z], argTypes := ts }) {V V2 V3 : Value} (hx : a.eval x = V) (hy : a.eval y = V2) (hz : a.eval z = V3) (hC : Calls Tryz.prog f #[V, V2, V3] w fun r w' => ∃ v, r = .returned v ∧ p v ∧ Below w.heap.size w w')
  (h : ∀ v w', p v → Below w.heap.size w w' → K (a.put o.dst v) w') : o.wp Tryz.prog a w K Q := by
 refine wp_enter (exec_call hc #[x, y, z] ts ho) ?_
 simp only [List.map_toArray, List.map_cons, List.map_nil, hx, hy, hz]
 exact hC.mono (fun e w' ⟨v, he, hp, hb⟩ => ⟨v, he, h v w' hp hb⟩)
theorem enterSwapped (args : Array Value) (w : World) : (callFunc 134 args).run Tryz.prog w = .ok (.enter 134 args) w := by kernel_rfl
theorem enterClimbed (args : Array Value) (w : World) : (callFunc 135 args).run Tryz.prog w = .ok (.enter 135 args) w := by kernel_rfl
theorem enterStep (args : Array Value) (w : World) : (callFunc 101 args).run Tryz.prog w = .ok (.enter 101 args) w := by kernel_rfl
theorem enterBitOf (args : Array Value) (w : World) : (callFunc 102 args).run Tryz.prog w = .ok (.enter 102 args) w := by kernel_rfl
theorem act_rg {a : Act} {o : Oper} {wd : World} {K : Act → World → Prop} {Q : Exit → Act → World → Prop} {X Y : Operand} (ho : o.op = .store 136 X Y)
  {g : Nat} (hx : a.eval X = .pointer (some ⟨g, 0, none⟩)) {q : Qd pN} (hy : RG q (a.eval Y)) {x z v w : Int} (hg : wd.heap[g]? = some (.cells (Q4 x z v w) 136 (0, 0)))
  (h : ∀ w2, ContOK (RGo q) w2 g → Only g wd w2 → K (a.put o.dst undef) w2) : o.wp Tryz.prog a wd K Q := by
 obtain ⟨x', z', v', w', e, h1, h2, h3, h4, h5⟩ := hy
 exact act_rungs ho hx e hg (Q4_size _ _ _ _) (fun w2 hg2 ho2 => h w2 ⟨_, hg2, x', z', v', w', rfl, h1, h2, h3, h4, h5⟩ ho2)
theorem exec_sub254 {a : Act} {o : Oper} {w : World} {x : Operand} (ho : o.op = .binOp .sub 3 (.const (.int .i64 254)) x 3) {n : Nat} (hx : a.eval x = .int .i64 (n : Int)) (hn : n ≤ 255) : (execOp a.eval o).run Tryz.prog w = .ok (.value (.int .i64 (254 - (n : Int)))) w := by
 have h : IntKind.i64.wrap (254 - (n : Int)) = 254 - (n : Int) := by rw [IntKind.wrap_i64]; omega
 unfold execOp
 simp only [ho, hx]
 simp [Act.eval, go_sem, h]
set_option maxHeartbeats 1000000 in
set_option maxRecDepth 100000 in
theorem step_rg (u : Int) (b : Bool) (q : Qd pN) (VV : Value) (hV : RG q VV) (wd : World) (hP : PrimeAt wd) (Nu : N256 u) :
  Calls Tryz.prog 101 #[VV, .int .u8 (bI b), .agg (BA u)] wd fun e w' => ∃ v, e = .returned v ∧ RG (Qd.step kN (ofI u) b q) v ∧ Below wd.heap.size wd w' := by
 have hV0 := hV
 obtain ⟨x, z, v, w, rfl, -⟩ := hV0
 have hz := primeAt_pos hP
 have hzero := zero_rungs
 have HP := Hid.mk hP
 clear hP
 go_enter Tryz.func101, Tryz.ntmps101
 go_wp2_with fail
 refine wp_gen (fun v0 => v0.heap[wd.heap.size]? = some (.cells (Q4 x z v w) 136 (0, 0)) ∧ v0.heap[wd.heap.size + 1]? = some (.cells (BA u) 22 (0, 0)) ∧ v0.heap[wd.heap.size + 1 + 1]? = some (.cells (Q4 0 0 0 0) 136 (0, 0)) ∧ Keep wd v0)
  ⟨heap_a31 wd _ _ _, heap_a32 wd _ _ _, heap_a3 wd _ _ _, keep_below hz ⟨Below.refl _ _, HP.out⟩ (by repeat first | exact Below.refl _ _ | refine Below.alloc ?_ (by simp <;> omega) _)⟩ ?_
 rintro v0 ⟨g3, g5, g6, hK⟩
 clear hzero HP
 refine wp_region3 (Keep wd) v0.heap.size
  [(wd.heap.size, fixd (Q4 x z v w) 136), ((wd.heap.size + 1), fixd (BA u) 22), ((wd.heap.size + 1 + 1), ⟨isOb (Q4 0 0 0 0) 136, [(7, RGo (Qd.step kN (ofI u) b q))]⟩)]
  [kv (.agg (Q4 x z v w)), kv (.int .u8 (bI b)), .val (RG (Qd.turn b q)), kv (.agg (BA u)), .val (RG (Qd.core kN (ofI u) (Qd.turn b q))), kv (.int .u8 (bI b)), .val (RG (Qd.step kN (ofI u) b q)), .val fun _ => True]
  [.none, .none, .none, .none, .none, .none, .none, .base 2 1]
  [some 7, some 8, some 9, some 10, some 11, some 12, some 13, none]
  [(1, .int .u8 (bI b)), (3, .pointer (some ⟨wd.heap.size, 0, none⟩)), (5, .pointer (some ⟨(wd.heap.size + 1), 0, none⟩)), (6, .pointer (some ⟨(wd.heap.size + 1 + 1), 0, none⟩))]
  [[.base 0 0], [], [.slot 0, .slot 1], [.base 1 0], [.slot 2, .slot 3], [], [.slot 4, .slot 5], [.base 2 0, .slot 6]]
  [.base 2 1] [7, 8, 9, 10, 11, 12, 13]
  rfl (by kernel_rfl) ⟨rfl, rfl, rfl, rfl, trivial⟩ (keep_drew hK) (Nat.le_refl _) ⟨⟨heap_lt g3, obIn g3⟩, ⟨heap_lt g5, obIn g5⟩, ⟨heap_lt g6, obIn g6⟩, trivial⟩ ⟨⟨trivial, (show (wd.heap.size : Nat) ≠ (wd.heap.size + 1 + 1) from by omega), trivial⟩, ⟨(show ((wd.heap.size + 1) : Nat) ≠ (wd.heap.size + 1 + 1) from by omega), trivial⟩, trivial, trivial⟩ (keep_G hz hK.1.size ⟨by omega, by omega, by omega, trivial⟩)
  ⟨
   (fun Q aq ww own hS hBg fr kn => .inl ⟨trivial, fun K hK => wp_value (look_rungs rfl fr.2.1 (obAt kn.1)) (hK _ _ ⟨Touch.refl _ _, rfl⟩)⟩),
   (fun Q aq ww own hS hBg fr kn => .inl ⟨trivial, fun K hK => wp_value (exec_move _ rfl) (hK _ _ ⟨Touch.refl _ _, fr.1⟩)⟩),
   (fun Q aq ww own hS hBg fr kn => .inl ⟨trivial, fun K hK => stepp2 enterSwapped rfl kn.1 kn.2.1 (swapped_rg b q _ hV ww) (fun v w' hp hb => hK _ _ ⟨touch_below hb, hp⟩)⟩),
   (fun Q aq ww own hS hBg fr kn => .inl ⟨trivial, fun K hK => wp_value (lookb rfl fr.2.2.1 (obAt kn.1)) (hK _ _ ⟨Touch.refl _ _, rfl⟩)⟩),
   (fun Q aq ww own hS hBg fr kn => .inl ⟨trivial, fun K hK => stepp2 enterClimbed rfl rfl kn.2.1 (climbed_rg u _ _ kn.1 ww hS.2 Nu) (fun v w' hp hb => hK _ _ ⟨touch_below hb, hp⟩)⟩),
   (fun Q aq ww own hS hBg fr kn => .inl ⟨trivial, fun K hK => wp_value (exec_move _ rfl) (hK _ _ ⟨Touch.refl _ _, fr.1⟩)⟩),
   (fun Q aq ww own hS hBg fr kn => .inl ⟨trivial, fun K hK => stepp2 enterSwapped rfl rfl kn.2.1 (swapped_rg b _ _ kn.1 ww) (fun v w' hp hb => hK _ _ ⟨touch_below hb, hp⟩)⟩),
   (fun Q aq ww own hS hBg fr kn => .inl ⟨trivial, fun K hK => act_rg rfl fr.2.2.2.1 kn.2.1 (obAt kn.1) (fun w2 hg ho => hK _ _ ⟨⟨touch_only ho, hg⟩, trivial⟩)⟩),
   trivial⟩ ?_
 intro vs own v1 hK1 hs1 kn inj
 obtain ⟨ob, g6, x', z', v', w', rfl, h1, h2, h3, h4, h5⟩ := kn.1
 simp only [putAll, Act.put, List.setIfInBounds_toArray, List.set_cons_zero, List.set_cons_succ]
 go_wp2
 exact bodyPost_ret (v := .agg (Q4 x' z' v' w')) (results_cell_row rfl _ _ _ _ _ _ _ rfl g6 Tryz.underlying136 rfl (by rw [Q4_size]; exact info128r)) rfl
  ⟨_, rfl, ⟨_, _, _, _, rfl, h1, h2, h3, h4, h5⟩, hK1.1⟩
theorem of1 : (1 : Int) % P255 = 1 := by decide +kernel
theorem of0 : (0 : Int) % P255 = 0 := by decide +kernel
set_option maxHeartbeats 1000000 in
set_option maxRecDepth 100000 in
theorem mult_any (k u : Int) (w : World) (hP : PrimeAt w) (hk : N256 k) :
  Calls Tryz.prog 57 #[.agg (BA k), .agg (BA u)] w fun e w' => e = .returned (.agg (BA (tN k u))) ∧ Below w.heap.size w w' := by
 have hz := primeAt_pos hP
 have HP := Hid.mk hP
 have HK := Hid.mk hk
 have HL := Hid.mk (BA_low u)
 have hx0 : N256 (u % W255) := by unfold N256 W256 W255; omega
 have HX0 := Hid.mk hx0
 have hb31 := byt_byte u 31
 unfold Byte at hb31
 obtain ⟨hb310, hb311⟩ := hb31
 have e127 := and127_u8 (byt u 31) hb310 hb311
 clear hk hx0 hP
 go_enter Tryz.func57, Tryz.ntmps57
 go_wp2_with (refine ld_bytes rfl _ rfl _ _ rfl (heap_a31 w _ _ _) (BA_size _) ?_)
 refine (clamp_any k _ HK.out).mono ?_
 rintro e v1 ⟨rfl, hb1⟩
 have gk := bheap hb1 (heap_a31 w _ _ _) (by simp <;> omega)
 have gu := bheap hb1 (heap_a32 w _ _ _) (by simp <;> omega)
 have gz := bheap hb1 (heap_a3 w _ _ _) (by simp <;> omega)
 have hB : Below w.heap.size w v1 := by
  refine Below.trans ?_ (hb1.mono (by simp <;> omega))
  repeat first | exact Below.refl _ _ | refine Below.alloc ?_ (by simp <;> omega) _
 clear hb1
 go_wp2_with (refine st_bytesS (by rfl) (by rfl) gk (BA_size _) ?_; intro v2 gk2 o2; refine Hid.out ?_)
 replace gu := (o2.block _ (by omega)).trans gu
 replace gz := (o2.block _ (by omega)).trans gz
 replace hB := Below.trans hB (Only.below (b := w.heap.size) (B := w.heap.size) o2 (Nat.le_refl _))
 clear gk o2
 refine Hid.mk ?_
 have cu := (cell_of_row v2 (w.heap.size + 1) 31 _ _ _ gu).trans (BA_get u 31 (by omega))
 have fu := frozen_of_row v2 (w.heap.size + 1) 31 _ _ gu
 generalize byt u 31 = x31 at *
 go_wp2_with (refine ld_bytes rfl _ rfl (w.heap.size + 1) _ rfl (heap_setCell_same _ _ _ _ _ _ gu) (by simp [BA_size]) ?_; rw [HL.out])
 refine (canon_any (u % W255) _ HX0.out.1 HX0.out.2).mono ?_
 rintro e v3 ⟨rfl, hb3⟩
 have gk3 := bheap hb3 ((heap_setCell_other _ _ _ _ (by simp)).trans gk2) (by have := heap_lt gk2; simp; omega)
 have gz3 := bheap hb3 ((heap_setCell_other _ _ _ _ (by simp)).trans gz) (by have := heap_lt gz; simp; omega)
 have hB3 : Below w.heap.size w v3 := Below.trans (Below.setCell hB (by simp) _) (hb3.mono (by have := hB.size; simp; omega))
 clear hb3 gk2 gz hB gu cu fu e127
 have NX := N256.mod (u % W255)
 obtain ⟨x, hxe⟩ : ∃ x, u % W255 % P255 = x := ⟨_, rfl⟩
 rw [hxe] at NX ⊢
 have HXE := Hid.mk hxe
 clear hxe
 go_wp2_with (refine st_bytesS (by rfl) (by rfl) (heap_alloc_new v3 _) (by rfl) ?_; intro v4 gx o4; refine Hid.out ?_)
 have hs3 := heap_lt gz3
 replace gk3 := (o4.block _ (Nat.ne_of_lt (heap_lt gk3))).trans ((Below.heap_alloc v3 _ _ (heap_lt gk3)).trans gk3)
 replace gz3 := (o4.block _ (Nat.ne_of_lt (heap_lt gz3))).trans ((Below.heap_alloc v3 _ _ (heap_lt gz3)).trans gz3)
 replace hB3 := Below.trans (hB3.alloc hB3.size _) (Only.below (b := v3.heap.size) (B := w.heap.size) o4 hB3.size)
 clear o4
 generalize v3.heap.size = bx at *
 have hK : Keep w v4 := keep_below hz ⟨Below.refl _ _, HP.out⟩ hB3
 clear hB3
 refine Hid.mk ?_
 have NN := clampN_256 k
 obtain ⟨N, hN⟩ : ∃ N, clampN k = N := ⟨_, rfl⟩
 have HN := Hid.mk hN
 rw [hN] at gk3 NN
 clear hN
 have gk := gk3
 have gz := gz3
 clear gk3 gz3
 go_wp2_with fail
 refine wp_region3 (Keep w) v4.heap.size
  [(bx, fixd (BA x) 22), (w.heap.size, fixd (BA N) 22), ((w.heap.size + 1 + 1), fixd (BA 0) 22)]
  [kv (.agg (BA 1)), kv (.agg (BA 0)), kv (.agg (BA x)), kv (.agg (BA 1)), kv (.agg (Q4 1 0 x 1)), kp (Q4 0 0 0 0) 136 6 (Q4 1 0 x 1), .val fun _ => True]
  [.none, .none, .none, .none, .none, .none, .own 5 1]
  [some 16, some 17, some 18, some 19, some 20, some 6, none]
  [(5, .pointer (some ⟨bx, 0, none⟩))]
  [[], [], [.base 0 0], [], [.slot 0, .slot 1, .slot 2, .slot 3], [], [.slot 5, .cont 5 0, .slot 4]]
  [.slot 5, .cont 5 1, .base 0 0, .base 1 0, .base 2 0] [16, 17, 18, 19, 20, 6]
  rfl (by kernel_rfl) ⟨rfl, trivial⟩ (keep_drew hK) (Nat.le_refl _) ⟨⟨heap_lt gx, obIn gx⟩, ⟨heap_lt gk, obIn gk⟩, ⟨heap_lt gz, obIn gz⟩, trivial⟩ ⟨⟨trivial, trivial, trivial⟩, ⟨trivial, trivial⟩, trivial, trivial⟩ (keep_G hz hK.1.size ⟨by omega, by omega, by omega, trivial⟩)
  ⟨
   (fun Q aq ww own hS hBg fr kn => .inl ⟨trivial, fun K hK => stepc1 enterOf rfl rfl (of_any 1 ww hS.2 (by omega) (by omega)) (fun w' hb => hK _ _ ⟨touch_below hb, (congrArg (fun n => Value.agg (BA n)) of1)⟩)⟩),
   (fun Q aq ww own hS hBg fr kn => .inl ⟨trivial, fun K hK => stepc1 enterOf rfl rfl (of_any 0 ww hS.2 (by omega) (by omega)) (fun w' hb => hK _ _ ⟨touch_below hb, (congrArg (fun n => Value.agg (BA n)) of0)⟩)⟩),
   (fun Q aq ww own hS hBg fr kn => .inl ⟨trivial, fun K hK => wp_value (lookb rfl fr.1 (obAt kn.1)) (hK _ _ ⟨Touch.refl _ _, rfl⟩)⟩),
   (fun Q aq ww own hS hBg fr kn => .inl ⟨trivial, fun K hK => stepc1 enterOf rfl rfl (of_any 1 ww hS.2 (by omega) (by omega)) (fun w' hb => hK _ _ ⟨touch_below hb, (congrArg (fun n => Value.agg (BA n)) of1)⟩)⟩),
   (fun Q aq ww own hS hBg fr kn => .inl ⟨trivial, fun K hK => wp_value (exec_rung4 rfl kn.1 kn.2.1 kn.2.2.1 kn.2.2.2.1) (hK _ _ ⟨Touch.refl _ _, rfl⟩)⟩),
   (fun Q aq ww own hS hBg fr kn => .inl ⟨trivial, fun K hK => act_alloc zero_rungs rfl (fun w' hb hg => hK _ _ ⟨touch_below hb, _, Nat.le_refl _, rfl, obIn hg⟩)⟩),
   (fun Q aq ww own hS hBg fr kn => .inl ⟨trivial, fun K hK => act_rungs rfl kn.1.1 kn.2.2.1 (obAt kn.2.1) (Q4_size _ _ _ _) (fun w2 hg ho => hK _ _ ⟨touch_only ho, obIn hg, trivial⟩)⟩),
   trivial⟩ ?_
 intro vs own v5 hK5 hs5 kn inj
 have e6 : vs 6 = .pointer (some ⟨own 5, 0, none⟩) := kn.1.1
 have l6 : v4.heap.size ≤ own 5 := kn.1.2.1
 have gp := obAt kn.2.1
 have gx5 := obAt kn.2.2.1
 have gk5 := obAt kn.2.2.2.1
 have gz5 := obAt kn.2.2.2.2.1
 have hl4 := heap_lt gz
 have hlx := heap_lt gx
 clear kn inj gx gk gz
 generalize own 5 = bp at *
 simp only [putAll, Act.put, List.setIfInBounds_toArray, List.set_cons_zero, List.set_cons_succ, e6]
 have hbp : w.heap.size + 3 ≤ bp := by omega
 have hbxp : bx < bp := by omega
 clear e6 l6 hl4 hlx hK own hs5
 go_wp2
 go_loopg [21] 255 (fun m i v => ∃ (j : Nat) (X Z V W : Int), Hid (m + j = 255) ∧ i = .int .i64 (j : Int) ∧ N256 X ∧ N256 Z ∧ N256 V ∧ N256 W ∧ Hid (QI X Z V W = Qd.run kN (ofI x) (topList N.toNat j) (Qd.start (ofI x))) ∧
  v.heap[w.heap.size]? = some (.cells (BA N) 22 (0, 0)) ∧ v.heap[w.heap.size + 1 + 1]? = some (.cells (BA 0) 22 (0, 0)) ∧ v.heap[bx]? = some (.cells (BA x) 22 (0, 0)) ∧ v.heap[bp]? = some (.cells (Q4 X Z V W) 136 (0, 0)) ∧ Keep w v)
 case atStart => exact ⟨0, 1, 0, x, 1, Hid.mk rfl, rfl, N256_1', N256_0', NX, N256_1', Hid.mk (start_link x), gk5, gz5, gx5, gp, hK5⟩
 case round =>
  clear gk5 gz5 gx5 gp hK5
  obtain ⟨j, X, Z, V, W, HJ, rfl, nX, nZ, nV, nW, HQ, gk, gz, gx, gp, hK⟩ := hrel
  have hj255 : j ≤ 255 := by have := HJ.out; omega
  by_cases hj : j < 255
  ·go_wp2_with fail
   refine wp_region3 (Keep w) wr.heap.size
    [(bp, ⟨isOb (Q4 X Z V W) 136, [(7, RGo (Qd.step kN (ofI x) (N.toNat.testBit (254 - j)) (QI X Z V W)))]⟩), (w.heap.size, fixd (BA N) 22), (bx, fixd (BA x) 22), ((w.heap.size + 1 + 1), fixd (BA 0) 22)]
    [kv (.agg (Q4 X Z V W)), kv (.agg (BA N)), kv (.int .i64 (j : Int)), kv (.int .i64 (254 - (j : Int))), kv (.int .u8 (bI (N.toNat.testBit (254 - j)))), kv (.agg (BA x)), .val (RG (Qd.step kN (ofI x) (N.toNat.testBit (254 - j)) (QI X Z V W))), .val fun _ => True]
    [.none, .none, .none, .none, .none, .none, .none, .base 0 1]
    [some 24, some 25, some 26, some 27, some 28, some 29, some 30, none]
    [(2, .pointer (some ⟨w.heap.size, 0, none⟩)), (5, .pointer (some ⟨bx, 0, none⟩)), (6, .pointer (some ⟨bp, 0, none⟩)), (7, .int .i64 (j : Int))]
    [[.base 0 0], [.base 1 0], [], [.slot 2], [.slot 1, .slot 3], [.base 2 0], [.slot 0, .slot 4, .slot 5], [.base 0 0, .slot 6]]
    [.base 0 1, .base 1 0, .base 2 0, .base 3 0] [24, 25, 26, 27, 28, 29, 30]
    rfl (by kernel_rfl) ⟨rfl, rfl, rfl, rfl, trivial⟩ (keep_drew hK) (Nat.le_refl _) ⟨⟨heap_lt gp, obIn gp⟩, ⟨heap_lt gk, obIn gk⟩, ⟨heap_lt gx, obIn gx⟩, ⟨heap_lt gz, obIn gz⟩, trivial⟩ ⟨⟨(show (bp : Nat) ≠ w.heap.size from by omega), (show (bp : Nat) ≠ bx from by omega), (show (bp : Nat) ≠ (w.heap.size + 1 + 1) from by omega), trivial⟩, ⟨trivial, trivial, trivial⟩, ⟨trivial, trivial⟩, trivial, trivial⟩ (keep_G hz hK.1.size ⟨by omega, by omega, by omega, by omega, trivial⟩)
    ⟨
     (fun Q aq ww own hS hBg fr kn => .inl ⟨trivial, fun K hK => wp_value (look_rungs rfl fr.2.2.1 (obAt kn.1)) (hK _ _ ⟨Touch.refl _ _, rfl⟩)⟩),
     (fun Q aq ww own hS hBg fr kn => .inl ⟨trivial, fun K hK => wp_value (lookb rfl fr.1 (obAt kn.1)) (hK _ _ ⟨Touch.refl _ _, rfl⟩)⟩),
     (fun Q aq ww own hS hBg fr kn => .inl ⟨trivial, fun K hK => wp_value (exec_move _ rfl) (hK _ _ ⟨Touch.refl _ _, fr.2.2.2.1⟩)⟩),
     (fun Q aq ww own hS hBg fr kn => .inl ⟨trivial, fun K hK => wp_value (exec_sub254 rfl kn.1 hj255) (hK _ _ ⟨Touch.refl _ _, rfl⟩)⟩),
     (fun Q aq ww own hS hBg fr kn => .inl ⟨trivial, fun K hK => stepc2 enterBitOf rfl kn.1 kn.2.1 (bitOf_any N j ww NN.1 hj) (fun w' hb => hK _ _ ⟨touch_below hb, rfl⟩)⟩),
     (fun Q aq ww own hS hBg fr kn => .inl ⟨trivial, fun K hK => wp_value (lookb rfl fr.2.1 (obAt kn.1)) (hK _ _ ⟨Touch.refl _ _, rfl⟩)⟩),
     (fun Q aq ww own hS hBg fr kn => .inl ⟨trivial, fun K hK => stepp3 enterStep rfl kn.1 kn.2.1 kn.2.2.1 (step_rg x _ _ _ (RG_of X Z V W nX nZ nV nW) ww hS.2 NX) (fun v w' hp hb => hK _ _ ⟨touch_below hb, hp⟩)⟩),
     (fun Q aq ww own hS hBg fr kn => .inl ⟨trivial, fun K hK => act_rg rfl fr.2.2.1 kn.2.1 (obAt kn.1) (fun w2 hg ho => hK _ _ ⟨⟨touch_only ho, hg⟩, trivial⟩)⟩),
     trivial⟩ ?_
   intro vs8 own8 v6 hK6 hs6 kn inj
   obtain ⟨ob, gp6, X', Z', V', W', rfl, nX', nZ', nV', nW', hQ'⟩ := kn.1
   have gk6 := obAt kn.2.1
   have gx6 := obAt kn.2.2.1
   have gz6 := obAt kn.2.2.2.1
   have HQ2 : Hid (QI X' Z' V' W' = Qd.run kN (ofI x) (topList N.toNat (j + 1)) (Qd.start (ofI x))) := Hid.mk (by rw [topList_succ, run_snoc, ← HQ.out]; exact hQ')
   clear hQ' HQ kn inj gk gz gx gp hK
   simp only [putAll, Act.put, List.setIfInBounds_toArray, List.set_cons_zero, List.set_cons_succ]
   go_wp2
   go_roundg (255 - (j + 1))
   case rel => exact ⟨j + 1, X', Z', V', W', Hid.mk (by omega), by go_num, nX', nZ', nV', nW', HQ2, gk6, gz6, gx6, gp6, hK6⟩
   case measure => have := HJ.out; omega
  ·have hj2 : j = 255 := by omega
   subst hj2
   have HE : Hid ((X * invN Z) % P255 = tN k u) := Hid.mk (lad_end k u X Z V W (by
    have e : ofI (u % W255) = ofI x := ofI_eq.2 (by have := HXE.out; have h2 := Int.emod_emod (u % W255) P255; rw [this] at h2; rw [this, h2])
    unfold keyBits
    rw [e, HN.out]
    exact HQ.out.symm))
   go_wp2_with fail
   refine wp_region3 (Keep w) wr.heap.size
    [(bp, fixd (Q4 X Z V W) 136), ((w.heap.size + 1 + 1), once (BA 0) 22 7 (BA (tN k u)))]
    [kv (.pointer (some ⟨bp, 0 * 32, none⟩)), kv (.agg (BA X)), kv (.pointer (some ⟨bp, 1 * 32, none⟩)), kv (.agg (BA Z)), kv (.agg (BA (invN Z))), ks 2 (BA X ++ BA (invN Z)) 22, kv (.agg (BA (tN k u))), .val fun _ => True]
    [.none, .none, .none, .none, .none, .none, .none, .base 1 1]
    [some 32, some 33, some 34, some 35, some 36, some 37, some 38, none]
    [(4, .pointer (some ⟨(w.heap.size + 1 + 1), 0, none⟩)), (6, .pointer (some ⟨bp, 0, none⟩))]
    [[], [.slot 0, .base 0 0], [], [.slot 2, .base 0 0], [.slot 3], [.slot 1, .slot 4], [.slot 5, .cont 5 0], [.base 1 0, .slot 6]]
    [.base 1 1] [32, 33, 34, 35, 36, 37, 38]
    rfl (by kernel_rfl) ⟨rfl, rfl, trivial⟩ (keep_drew hK) (Nat.le_refl _) ⟨⟨heap_lt gp, obIn gp⟩, ⟨heap_lt gz, obIn gz⟩, trivial⟩ ⟨⟨(show (bp : Nat) ≠ (w.heap.size + 1 + 1) from by omega), trivial⟩, trivial, trivial⟩ (keep_G hz hK.1.size ⟨by omega, by omega, trivial⟩)
    ⟨
     (fun Q aq ww own hS hBg fr kn => .inl ⟨trivial, fun K hK => wp_value (exec_fa rfl fr.2.1 (by decide)) (hK _ _ ⟨Touch.refl _ _, rfl⟩)⟩),
     (fun Q aq ww own hS hBg fr kn => .inl ⟨trivial, fun K hK => wp_value (lookf rfl kn.1 (range_in (obAt kn.2.1) (Q4_0' X Z V W))) (hK _ _ ⟨Touch.refl _ _, rfl⟩)⟩),
     (fun Q aq ww own hS hBg fr kn => .inl ⟨trivial, fun K hK => wp_value (exec_fa rfl fr.2.1 (by decide)) (hK _ _ ⟨Touch.refl _ _, rfl⟩)⟩),
     (fun Q aq ww own hS hBg fr kn => .inl ⟨trivial, fun K hK => wp_value (lookf rfl kn.1 (range_in (obAt kn.2.1) (Q4_1 X Z V W))) (hK _ _ ⟨Touch.refl _ _, rfl⟩)⟩),
     (fun Q aq ww own hS hBg fr kn => .inl ⟨trivial, fun K hK => stepc1 enterInv rfl kn.1 (inv_any Z ww hS.2 nZ) (fun w' hb => hK _ _ ⟨touch_below hb, rfl⟩)⟩),
     (fun Q aq ww own hS hBg fr kn => .inl ⟨trivial, fun K hK => actb2 rfl kn.1 kn.2.1 (fun v hg hb => hK _ _ ⟨touch_below hb, _, Nat.le_refl _, rfl, obIn hg⟩)⟩),
     (fun Q aq ww own hS hBg fr kn => .inl ⟨trivial, fun K hK => stepc1 enterMul rfl kn.1.1 (mul2 X (invN Z) _ ww nX (invN_256 Z) (rows2 (obAt kn.2.1)) kn.1.2.2) (fun w' hb => hK _ _ ⟨touch_below hb, (congrArg (fun n => Value.agg (BA n)) HE.out)⟩)⟩),
     (fun Q aq ww own hS hBg fr kn => .inl ⟨trivial, fun K hK => actbytes rfl fr.1 kn.2.1 (obAt kn.1) (fun w2 hg ho => hK _ _ ⟨⟨touch_only ho, obIn hg⟩, trivial⟩)⟩),
     trivial⟩ ?_
   intro vs8 own8 v6 hK6 hs6 kn inj
   have gz6 := obAt kn.1
   simp only [putAll, Act.put, List.setIfInBounds_toArray, List.set_cons_zero, List.set_cons_succ]
   go_wp2
   exact bodyPost_ret (v := .agg (BA (tN k u))) (results_cell_row rfl _ _ _ _ _ _ _ rfl gz6 Tryz.underlying22 rfl (by rw [BA_size]; exact info32)) rfl ⟨rfl, hK6.1⟩
end Go.Proofs.YthghcjepdhkfdaaGreatDoor.Fld

/-
  Own text. What Public and Shared of package curve give, and the document's Shared; that the examples hold.
-/
namespace Go.Proofs.YthghcjepdhkfdaaGreatDoor.Fld
open Go.RowKit Go.Proofs
set_option maxRecDepth 100000
theorem results_cellt {P : Program} {fn : Func} {p u : Tmp} {ty : TypeId} (h : fn.results = #[.cell p ty, .tmp u]) (tmps : Array Value) (w : World) (g : Nat) {v : Value}
  (hp : tmps.getD p undef = .pointer (some ⟨g, 0, none⟩)) (hq : tmps.getD u undef = v) {t : TypeId} {fr : Nat × Nat} {d : TypeDesc} (cs : Array Value) (hg : w.heap[g]? = some (.cells cs t fr))
  (hi : (P.info? ty).map (·.size) = some cs.size) (hu : P.underlying ty = some d) (hd : (match d with | .struct _ | .array _ _ => true | _ => false) = true) :
  (results fn tmps).run P w = .ok (.tuple #[.agg cs, v]) w := by
 have hp' : tmps[p]?.getD undef = .pointer (some ⟨g, 0, none⟩) := by simpa using hp
 have hq' : tmps[u]?.getD undef = v := by simpa using hq
 simp [results, h, hp', hq', asAddr, run_loadVar_row w g t ty cs fr d hg hu hd hi]
theorem enterMult (args : Array Value) (w : World) : (callFunc 57 args).run Tryz.prog w = .ok (.enter 57 args) w := by kernel_rfl
theorem of9 : (9 : Int) % P255 = 9 := by decide +kernel
set_option maxHeartbeats 1000000 in
set_option maxRecDepth 100000 in
theorem public_any (k : Int) (w : World) (hP : PrimeAt w) (Nk : N256 k) :
  Calls Tryz.prog 18 #[.agg (BA k)] w fun e w' => e = .returned (.agg (BA (tN k 9))) ∧ Below w.heap.size w w' := by
 have hz := primeAt_pos hP
 have HP := Hid.mk hP
 clear hP
 go_enter Tryz.func18, Tryz.ntmps18
 go_wp2_with fail
 refine wp_gen (fun v0 => v0.heap[w.heap.size]? = some (.cells (BA k) 22 (0, 0)) ∧ v0.heap[w.heap.size + 1]? = some (.cells (BA 0) 22 (0, 0)) ∧ Keep w v0)
  ⟨heap_alloc2_old w _ _, heap_alloc2_new w _ _, keep_below hz ⟨Below.refl _ _, HP.out⟩ (by repeat first | exact Below.refl _ _ | refine Below.alloc ?_ (by simp <;> omega) _)⟩ ?_
 rintro v0 ⟨g1, g2, hK⟩
 clear HP
 refine wp_region3 (Keep w) v0.heap.size
  [(w.heap.size, fixd (BA k) 22), ((w.heap.size + 1), once (BA 0) 22 3 (BA (tN k 9)))]
  [kv (.agg (BA k)), kv (.agg (BA 9)), kv (.agg (BA (tN k 9))), .val fun _ => True]
  [.none, .none, .none, .base 1 1]
  [some 3, some 4, some 5, none]
  [(1, .pointer (some ⟨w.heap.size, 0, none⟩)), (2, .pointer (some ⟨(w.heap.size + 1), 0, none⟩))]
  [[.base 0 0], [], [.slot 0, .slot 1], [.base 1 0, .slot 2]]
  [.base 1 1] [3, 4, 5]
  rfl (by kernel_rfl) ⟨rfl, rfl, trivial⟩ (keep_drew hK) (Nat.le_refl _) ⟨⟨heap_lt g1, obIn g1⟩, ⟨heap_lt g2, obIn g2⟩, trivial⟩ ⟨⟨(show (w.heap.size : Nat) ≠ (w.heap.size + 1) from by omega), trivial⟩, trivial, trivial⟩ (keep_G hz hK.1.size ⟨by omega, by omega, trivial⟩)
  ⟨
   (fun Q aq ww own hS hBg fr kn => .inl ⟨trivial, fun K hK => wp_value (lookb rfl fr.1 (obAt kn.1)) (hK _ _ ⟨Touch.refl _ _, rfl⟩)⟩),
   (fun Q aq ww own hS hBg fr kn => .inl ⟨trivial, fun K hK => stepc1 enterOf rfl rfl (of_any 9 ww hS.2 (by omega) (by omega)) (fun w' hb => hK _ _ ⟨touch_below hb, (congrArg (fun n => Value.agg (BA n)) of9)⟩)⟩),
   (fun Q aq ww own hS hBg fr kn => .inl ⟨trivial, fun K hK => stepc2 enterMult rfl kn.1 kn.2.1 (mult_any k 9 ww hS.2 Nk) (fun w' hb => hK _ _ ⟨touch_below hb, rfl⟩)⟩),
   (fun Q aq ww own hS hBg fr kn => .inl ⟨trivial, fun K hK => actbytes rfl fr.2.1 kn.2.1 (obAt kn.1) (fun w2 hg ho => hK _ _ ⟨⟨touch_only ho, obIn hg⟩, trivial⟩)⟩),
   trivial⟩ ?_
 intro vs own v1 hK1 hs1 kn inj
 have g3 := obAt kn.1
 simp only [putAll, Act.put, List.setIfInBounds_toArray, List.set_cons_zero, List.set_cons_succ]
 go_wp2
 exact bodyPost_ret (v := .agg (BA (tN k 9))) (results_cell_row rfl _ _ _ _ _ _ _ rfl g3 Tryz.underlying22 rfl (by rw [BA_size]; exact info32)) rfl ⟨rfl, hK1.1⟩
set_option maxHeartbeats 1000000 in
set_option maxRecDepth 100000 in
theorem shared_any (k u : Int) (w : World) (hP : PrimeAt w) (hk : N256 k) :
  Calls Tryz.prog 118 #[.agg (BA k), .agg (BA u)] w fun e w' => e = .returned (.tuple #[.agg (BA (tN k u)), .bool (!(tN k u == 0))]) ∧ Below w.heap.size w w' := by
 have hz := primeAt_pos hP
 have HP := Hid.mk hP
 clear hP
 have HK := Hid.mk hk
 clear hk
 go_enter Tryz.func118, Tryz.ntmps118
 go_wp2_with (first | (refine ld_bytes rfl _ rfl w.heap.size (BA k) rfl (heap_a31 w _ _ _) (BA_size _) ?_) | (refine ld_bytes rfl _ rfl (w.heap.size + 1) (BA u) rfl (heap_a32 w _ _ _) (BA_size _) ?_))
 refine (mult_any k u _ (primeAt_below HP.out (B := w.heap.size) (by repeat first | exact Below.refl _ _ | refine Below.alloc ?_ (by simp <;> omega) _) hz) HK.out).mono ?_
 rintro e v1 ⟨rfl, hb1⟩
 have gz := bheap hb1 (heap_a3 w _ _ _) (by simp <;> omega)
 have hB : Below w.heap.size w v1 := by
  refine Below.trans ?_ (hb1.mono (by simp <;> omega))
  repeat first | exact Below.refl _ _ | refine Below.alloc ?_ (by simp <;> omega) _
 clear hb1
 have Ns := tN_256 k u
 obtain ⟨s, hs⟩ : ∃ s, tN k u = s := ⟨_, rfl⟩
 rw [hs] at Ns ⊢
 have HS := Hid.mk hs
 clear hs
 go_wp2_with (refine st_bytesS (by rfl) (by rfl) (heap_alloc_new v1 _) (by rfl) ?_; intro v2 g6 o2; refine Hid.out ?_)
 have hl := heap_lt gz
 replace gz := (o2.block _ (Nat.ne_of_lt (heap_lt gz))).trans ((Below.heap_alloc v1 _ _ (heap_lt gz)).trans gz)
 replace hB := Below.trans (hB.alloc hB.size _) (Only.below (b := v1.heap.size) (B := w.heap.size) o2 hB.size)
 clear o2
 generalize v1.heap.size = b6 at *
 have hK : Keep w v2 := keep_below hz ⟨Below.refl _ _, HP.out⟩ hB
 clear hB
 refine Hid.mk ?_
 go_wp2_with fail
 refine wp_region3 (Keep w) v2.heap.size
  [(b6, fixd (BA s) 22), ((w.heap.size + 1 + 1), once (BA 0) 22 4 (BA s))]
  [kv (.agg (BA s)), kv (.agg (BA s)), kv (.agg (BA 0)), kv (.bool (!(s == 0))), .val fun _ => True, kv (.bool (!(s == 0)))]
  [.none, .none, .none, .none, .base 1 1, .none]
  [some 10, some 11, some 12, some 13, none, some 5]
  [(4, .pointer (some ⟨(w.heap.size + 1 + 1), 0, none⟩)), (6, .pointer (some ⟨b6, 0, none⟩))]
  [[.base 0 0], [.base 0 0], [], [.slot 1, .slot 2], [.base 1 0, .slot 0], [.slot 3]]
  [.slot 5, .base 1 1] [10, 11, 12, 13, 5]
  rfl (by kernel_rfl) ⟨rfl, rfl, trivial⟩ (keep_drew hK) (Nat.le_refl _) ⟨⟨heap_lt g6, obIn g6⟩, ⟨heap_lt gz, obIn gz⟩, trivial⟩ ⟨⟨(show (b6 : Nat) ≠ (w.heap.size + 1 + 1) from by omega), trivial⟩, trivial, trivial⟩ (keep_G hz hK.1.size ⟨by omega, by omega, trivial⟩)
  ⟨
   (fun Q aq ww own hS hBg fr kn => .inl ⟨trivial, fun K hK => wp_value (lookb rfl fr.2.1 (obAt kn.1)) (hK _ _ ⟨Touch.refl _ _, rfl⟩)⟩),
   (fun Q aq ww own hS hBg fr kn => .inl ⟨trivial, fun K hK => wp_value (lookb rfl fr.2.1 (obAt kn.1)) (hK _ _ ⟨Touch.refl _ _, rfl⟩)⟩),
   (fun Q aq ww own hS hBg fr kn => .inl ⟨trivial, fun K hK => wp_value (exec_build0 rfl) (hK _ _ ⟨Touch.refl _ _, rfl⟩)⟩),
   (fun Q aq ww own hS hBg fr kn => .inl ⟨trivial, fun K hK => wp_value (neq_bytes _ _ _ rfl s 0 kn.1 kn.2.1 Ns N256_0') (hK _ _ ⟨Touch.refl _ _, rfl⟩)⟩),
   (fun Q aq ww own hS hBg fr kn => .inl ⟨trivial, fun K hK => actbytes rfl fr.1 kn.2.1 (obAt kn.1) (fun w2 hg ho => hK _ _ ⟨⟨touch_only ho, obIn hg⟩, trivial⟩)⟩),
   (fun Q aq ww own hS hBg fr kn => .inl ⟨trivial, fun K hK => wp_value (exec_assign _ rfl) (hK _ _ ⟨Touch.refl _ _, kn.1⟩)⟩),
   trivial⟩ ?_
 intro vs own v3 hK3 hs3 kn inj
 have e5 : vs 5 = .bool (!(s == 0)) := kn.1
 have gz3 := obAt kn.2.1
 clear kn inj
 simp only [putAll, Act.put, List.setIfInBounds_toArray, List.set_cons_zero, List.set_cons_succ, e5]
 go_wp2
 exact bodyPost_ret (v := .tuple #[.agg (BA s), .bool (!(s == 0))]) (results_cellt (v := .bool (!(s == 0))) (p := 4) (u := 5) rfl _ _ _ (by rfl) (by rfl) _ gz3 (by rw [BA_size]; exact info32) Tryz.underlying22 rfl) rfl ⟨by rw [HS.out], hK3.1⟩
end Go.Proofs.YthghcjepdhkfdaaGreatDoor.Fld

/-
  Own text. Keys of 32 bytes as numbers: what Public and Shared answer, of the document and of package curve; numbers of four bytes.
-/
namespace Go.Proofs.YthghcjepdhkfdaaGreatDoor
open Go.RowKit Go.Proofs
set_option maxRecDepth 100000
theorem dig_dval {s : Nat → Int} : ∀ {n : Nat}, Byts n s → ∀ j, j < n → digN (dval s n) j = s j
 | 0, _, j, hj => by omega
 | n + 1, h, j, hj => by
  have hb : Byts n s := fun i hi => h i (by omega)
  have hn := h n (by omega)
  unfold dval digN
  by_cases e : j = n
  ·subst e
   have h0 := dval_nonneg (s := s) (n := j) (fun i hi => (hb i hi).1)
   have h1 := dval_lt (s := s) (n := j) hb
   rw [Int.add_mul_ediv_left _ _ (by have : (0 : Int) < 256 ^ j := Int.pow_pos (by omega); omega), Int.ediv_eq_zero_of_lt h0 h1]
   omega
  ·obtain ⟨d, hd⟩ : ∃ d, n = j + 1 + d := ⟨n - (j + 1), by omega⟩
   have ih := dig_dval hb j (by omega)
   unfold digN at ih
   have hp : (0 : Int) < 256 ^ j := Int.pow_pos (by omega)
   have e2 : dval s n + 256 ^ n * s n = dval s n + 256 ^ j * (256 * (256 ^ d * s n)) := by
    rw [hd, Int.pow_add, Int.pow_succ]
    simp only [Int.mul_assoc]
   rw [e2, Int.add_mul_ediv_left _ _ (by omega), ← ih]
   omega
def nm (s : Nat → Int) : Int := dval s 32
theorem nm_N {s : Nat → Int} (h : Byts 32 s) : Fld.N256 (nm s) :=
 ⟨dval_nonneg (fun i hi => (h i hi).1), dval_lt h⟩
theorem BA_dig (m : Int) : Fld.BA m = WA .u8 32 (digN m) := rfl
theorem BA_nm {s : Nat → Int} (h : Byts 32 s) : Fld.BA (nm s) = WA .u8 32 s := by
 rw [BA_dig]
 exact WA_congr (dig_dval h)
def pubF (k : Nat → Int) : Nat → Int := digN (Fld.tN (nm k) 9)
def shF (k u : Nat → Int) : Nat → Int := digN (Fld.tN (nm k) (nm u))
def shZ (k u : Nat → Int) : Bool := !(Fld.tN (nm k) (nm u) == 0)
theorem pubF_b (k : Nat → Int) (n : Nat) : Byts n (pubF k) := fun i _ => digN_b _ i
theorem shF_b (k u : Nat → Int) (n : Nat) : Byts n (shF k u) := fun i _ => digN_b _ i
theorem Public_run (k : Nat → Int) (w : World) (hP : Fld.PrimeAt w) (hk : Byts 32 k) : Calls Tryz.prog 18 #[.agg (WA .u8 32 k)] w fun e w' => e = .returned (.agg (WA .u8 32 (pubF k))) ∧ Below w.heap.size w w' := by
 have h := Fld.public_any (nm k) w hP (nm_N hk)
 rw [BA_nm hk, BA_dig] at h
 exact h
theorem Shared_run (k u : Nat → Int) (w : World) (hP : Fld.PrimeAt w) (hk : Byts 32 k) (hu : Byts 32 u) : Calls Tryz.prog 118 #[.agg (WA .u8 32 k), .agg (WA .u8 32 u)] w fun e w' => e = .returned (.tuple #[.agg (WA .u8 32 (shF k u)), .bool (shZ k u)]) ∧ Below w.heap.size w w' := by
 have h := Fld.shared_any (nm k) (nm u) w hP (nm_N hk)
 rw [BA_nm hk, BA_nm hu, BA_dig] at h
 exact h
def fourT (n : Int) : ByteArray := mkS 4 (digN n)
theorem fourT_size (n : Int) : (fourT n).size = 4 := mkS_size _ _
def numT (s : ByteArray) : Int := txt s 0 + txt s 1 * 256 + txt s 2 * 65536 + txt s 3 * 16777216
end Go.Proofs.YthghcjepdhkfdaaGreatDoor

/-
  Own text. The document's answer for noise: both; marks.
-/
namespace Go.Proofs.YthghcjepdhkfdaaGreatDoor
open Go.RowKit Go.Proofs
set_option maxRecDepth 100000
def bthL (C : Nat → Int) (e : ByteArray) (o t s : Nat → Int) : Nat → Nat → Int := chn (chn (chn (chn C e 0) (mkS 32 o) 0) (mkS 32 t) 0) (mkS 32 s)
def bthH (H C : Nat → Int) (e : ByteArray) (o t s : Nat → Int) : Nat → Int := mixH (mixH H e) (mkS 32 (bthL C e o t s 1))
section
variable {b : Nat} {w w' : World}
theorem RowsAt.touch {B n a : Nat} {F : Nat → Nat → Int} (h : RowsAt w B n a F) (t : Touch (fun x => x = b) w w') (hb : B ≠ b) : RowsAt w' B n a F := h.block (t.block B h.lt hb)
theorem ArrAt.tou {g n : Nat} {k : IntKind} {ty : TypeId} {s : Nat → Int} (h : ArrAt w g k ty n s) (t : Touch (fun x => x = b) w w') (hb : g ≠ b) : ArrAt w' g k ty n s := h.block (t.block g h.lt hb)
end
def mrkK (to : Nat → Int) : ByteArray := mkS 32 (sumF (⟨#[109, 97, 99, 49, 45, 45, 45, 45]⟩ ++ mkS 32 to))
def mrkT (m : ByteArray) (to : Nat → Int) : ByteArray := (keyedT 16 (mrkK to) m).1
theorem keyed_size (k m : ByteArray) (hk : k.size ≤ 32) : (keyedT 16 k m).1.size = 16 := by
 unfold keyedT
 rw [if_pos ⟨by omega, by omega, hk⟩]
 exact mkS_size _ _
theorem mrkT_size (m : ByteArray) (to : Nat → Int) : (mrkT m to).size = 16 := keyed_size _ m (by unfold mrkK; rw [mkS_size]; omega)
def isWhole (m : ByteArray) : Bool := decide (m.size = 148 ∨ m.size = 92)
end Go.Proofs.YthghcjepdhkfdaaGreatDoor

/-
  Own text. The document's answer for noise: Mark, Cookied.
-/
namespace Go.Proofs.YthghcjepdhkfdaaGreatDoor
open Go.RowKit Go.Proofs
set_option maxRecDepth 100000
def marksT (m : ByteArray) (to : Nat → Int) (c : ByteArray) : ByteArray := m ++ mrkT m to ++ (if c.size = 0 then mkS 16 (fun _ => 0) else (keyedT 16 c (m ++ mrkT m to)).1)
def MarkR (m : ByteArray) (to : Nat → Int) (c : ByteArray) : ByteArray × Int := if ¬ (m.size = 116 ∨ m.size = 60) then (⟨#[]⟩, 10) else if ¬ (c.size = 0 ∨ c.size = 16) then (⟨#[]⟩, 1) else (marksT m to c, 0)
end Go.Proofs.YthghcjepdhkfdaaGreatDoor

/-
  Own text. The document's answer for noise: Marked, Cookied.
-/
namespace Go.Proofs.YthghcjepdhkfdaaGreatDoor
open Go.RowKit Go.Proofs
set_option maxRecDepth 100000
def MarkedR (m : ByteArray) (k : Nat → Int) : Bool := isWhole m && decide (mrkT (m.extract 0 (m.size - 32)) k = m.extract (m.size - 32) (m.size - 32 + 16))
end Go.Proofs.YthghcjepdhkfdaaGreatDoor

/-
  Own text. The document's answer for noise: Box, Unbox.
-/
namespace Go.Proofs.YthghcjepdhkfdaaGreatDoor
open Go.RowKit Go.Proofs
set_option maxRecDepth 100000
end Go.Proofs.YthghcjepdhkfdaaGreatDoor

/-
  Own text. The document's answer for noise: Unbox.
-/
namespace Go.Proofs.YthghcjepdhkfdaaGreatDoor
open Go.RowKit Go.Proofs
set_option maxRecDepth 100000
theorem openT_two (key nonce : Nat → Int) (box beside : ByteArray) : (openT key nonce box beside).2 = 0 ∨ openT key nonce box beside = (⟨#[]⟩, 13) := by
 unfold openT
 split
 ·exact .inl rfl
 ·exact .inr rfl
end Go.Proofs.YthghcjepdhkfdaaGreatDoor

/-
  Own text. Structs of cells in memory: a hand, a pair, an endpoint.
-/
namespace Go.Proofs.YthghcjepdhkfdaaGreatDoor
open Go.RowKit Go.Proofs
set_option maxRecDepth 100000
def SC (n : Nat) (V : Nat → Value) : Array Value := ((List.range n).map V).toArray
theorem SC_size (n : Nat) (V : Nat → Value) : (SC n V).size = n := by simp [SC]
theorem SC_get (n : Nat) (V : Nat → Value) (i : Nat) (h : i < n) : (SC n V)[i]? = some (V i) := by simp [SC, h]
theorem SC_one {n : Nat} {V : Nat → Value} (h : ∀ i, (V i).oneCell' = true) : (SC n V).all (·.oneCell') = true := by
 rw [Array.all_eq_true_iff_forall_mem]
 intro v hv
 simp only [SC, List.mem_toArray, List.mem_map] at hv
 obtain ⟨i, _, rfl⟩ := hv
 exact h i
def IsSt (ty n : Nat) : Prop := ∃ d, Tryz.prog.underlying ty = some d ∧ (match d with | .struct _ | .array _ _ => true | _ => false) = true ∧ (Tryz.prog.info? ty).map (·.size) = some n
def SAt (w : World) (b : Nat) (ty : TypeId) (n : Nat) (V : Nat → Value) : Prop := w.heap[b]? = some (.cells (SC n V) ty (0, 0))
section
variable {w w' : World} {b n : Nat} {ty : TypeId} {V : Nat → Value}
theorem SAt.at (h : SAt w b ty n V) (i : Nat) (hi : i < n) : w.cell? ⟨b, i, none⟩ = some (V i) := by
 rw [cell_of_row w b i _ _ _ h, SC_get n V i hi]
theorem SAt.lt (h : SAt w b ty n V) : b < w.heap.size := heap_lt h
theorem SAt.block (h : SAt w b ty n V) (e : w'.heap[b]? = w.heap[b]?) : SAt w' b ty n V := e.trans h
theorem SAt.kept (h : SAt w b ty n V) (hb : Below w.heap.size w w') : SAt w' b ty n V := h.block (hb.block b h.lt)
theorem SAt.only {g : Nat} (h : SAt w b ty n V) (ho : Only g w w') (hB : b ≠ g) : SAt w' b ty n V := h.block (ho.block b hB)
theorem SAt.tou {g : Nat} (h : SAt w b ty n V) (t : Touch (fun x => x = g) w w') (hB : b ≠ g) : SAt w' b ty n V := h.block (t.block b h.lt hB)
theorem SAt.range {o m : Nat} {s : Nat → Int} (h : SAt w b ty n V) (hm : o + m ≤ n) (hv : ∀ j, j < m → V (o + j) = .int .u8 (s j)) : w.rangeAt b o (nums .u8 m s) := fun j v hj => by
 obtain ⟨hj2, rfl⟩ := nums_get hj
 rw [h.at (o + j) (by omega), hv j hj2]
end
theorem st_st {ops : Array Oper} {rest : List Oper} {d : Option Tmp} {x y : Operand} {t ty : TypeId} {ps : String} {af : Array Edge} {a : Act} {w : World} {Q : Exit → Act → World → Prop} {g n : Nat} {V V' : Nat → Value}
  (hA : IsSt ty n) (h1 : ∀ i, (V i).oneCell' = true) (hg : SAt w g ty n V') (hx : a.eval x = .pointer (some ⟨g, 0, none⟩)) (hy : a.eval y = .agg (SC n V))
  (h : ∀ w2, SAt w2 g ty n V → Only g w w2 → wpList Tryz.prog ops Q rest (a.put d undef) w2) : wpList Tryz.prog ops Q ({ dst := d, op := .store ty x y, type := t, pos := ps, after := af, guard := none } :: rest) a w := by
 obtain ⟨_, _, _, h3⟩ := hA
 exact st_row rfl ty x y rfl g _ hx hy ty _ hg (by rw [SC_size]; exact h3) (by rw [SC_size, SC_size]) (SC_one h1) h
theorem look_st {a : Act} {o : Oper} {w : World} {x : Operand} {ty : TypeId} {g n : Nat} {V : Nat → Value} (ho : o.op = .load ty x) (hA : IsSt ty n) (hg : SAt w g ty n V) (hx : a.eval x = .pointer (some ⟨g, 0, none⟩)) : (execOp a.eval o).run Tryz.prog w = .ok (.value (.agg (SC n V))) w := by
 obtain ⟨d, h1, h2, h3⟩ := hA
 unfold execOp
 simp only [ho, hx]
 have := run_loadVar_row (P := Tryz.prog) w g ty ty (SC n V) (0, 0) _ hg h1 (by cases d <;> first | rfl | exact h2) (by rw [SC_size]; exact h3)
 simp [Instr.loadAt, Instr.sureAddr, this]
def hanV (H C O R P : Nat → Int) (l f : Int) (i : Nat) : Value := if i < 32 then .int .u8 (H i) else if i < 64 then .int .u8 (C (i - 32)) else if i < 96 then .int .u8 (O (i - 64)) else if i < 128 then .int .u8 (R (i - 96)) else if i < 160 then .int .u8 (P (i - 128)) else if i < 161 then .int .u32 l else .int .u32 f
def hanZ : Nat → Value := hanV (fun _ => 0) (fun _ => 0) (fun _ => 0) (fun _ => 0) (fun _ => 0) 0 0
theorem hanV_one (H C O R P : Nat → Int) (l f : Int) (i : Nat) : (hanV H C O R P l f i).oneCell' = true := by unfold hanV; (repeat' split) <;> rfl
def paiV (S R : Nat → Int) (l f : Int) (i : Nat) : Value := if i < 32 then .int .u8 (S i) else if i < 64 then .int .u8 (R (i - 32)) else if i < 65 then .int .u32 l else .int .u32 f
def paiZ : Nat → Value := paiV (fun _ => 0) (fun _ => 0) 0 0
theorem paiV_one (S R : Nat → Int) (l f : Int) (i : Nat) : (paiV S R l f i).oneCell' = true := by unfold paiV; (repeat' split) <;> rfl
theorem isHand : IsSt 31 162 := ⟨_, Tryz.underlying31, rfl, by kernel_rfl⟩
theorem isPair : IsSt 41 66 := ⟨_, Tryz.underlying41, rfl, by kernel_rfl⟩
section
variable {w : World} {b : Nat} {H C O R P S : Nat → Int} {l f : Int}
theorem han_h (h : SAt w b 31 162 (hanV H C O R P l f)) : w.rangeAt b 0 (nums .u8 32 H) := h.range (by omega) (fun j hj => by unfold hanV; rw [Nat.zero_add, if_pos hj])
theorem han_c (h : SAt w b 31 162 (hanV H C O R P l f)) : w.rangeAt b 32 (nums .u8 32 C) := h.range (by omega) (fun j hj => by unfold hanV; rw [if_neg (by omega), if_pos (by omega), Nat.add_sub_cancel_left])
theorem han_o (h : SAt w b 31 162 (hanV H C O R P l f)) : w.rangeAt b 64 (nums .u8 32 O) := h.range (by omega) (fun j hj => by unfold hanV; rw [if_neg (by omega), if_neg (by omega), if_pos (by omega), Nat.add_sub_cancel_left])
theorem han_r (h : SAt w b 31 162 (hanV H C O R P l f)) : w.rangeAt b 96 (nums .u8 32 R) := h.range (by omega) (fun j hj => by unfold hanV; rw [if_neg (by omega), if_neg (by omega), if_neg (by omega), if_pos (by omega), Nat.add_sub_cancel_left])
theorem han_p (h : SAt w b 31 162 (hanV H C O R P l f)) : w.rangeAt b 128 (nums .u8 32 P) := h.range (by omega) (fun j hj => by unfold hanV; rw [if_neg (by omega), if_neg (by omega), if_neg (by omega), if_neg (by omega), if_pos (by omega), Nat.add_sub_cancel_left])
theorem han_l (h : SAt w b 31 162 (hanV H C O R P l f)) : w.cell? ⟨b, 160, none⟩ = some (.int .u32 l) := h.at 160 (by omega)
theorem han_f (h : SAt w b 31 162 (hanV H C O R P l f)) : w.cell? ⟨b, 161, none⟩ = some (.int .u32 f) := h.at 161 (by omega)
end
theorem run_pai (S R : Nat → Int) (l f : Int) (w : World) : (Instr.build 41 #[(0, .agg (WA .u8 32 S)), (1, .agg (WA .u8 32 R)), (2, .int .u32 l), (3, .int .u32 f)]).run Tryz.prog w = .ok (.agg (SC 66 (paiV S R l f))) w := by kernel_rfl
theorem run_hanB (H C O P : Nat → Int) (l : Int) (w : World) : (Instr.build 31 #[(0, .agg (WA .u8 32 H)), (1, .agg (WA .u8 32 C)), (2, .agg (WA .u8 32 O)), (4, .agg (WA .u8 32 P)), (5, .int .u32 l)]).run Tryz.prog w = .ok (.agg (SC 162 (hanV H C O (fun _ => 0) P l 0))) w := by kernel_rfl
theorem run_hanA (H C R P : Nat → Int) (f : Int) (w : World) : (Instr.build 31 #[(0, .agg (WA .u8 32 H)), (1, .agg (WA .u8 32 C)), (3, .agg (WA .u8 32 R)), (4, .agg (WA .u8 32 P)), (6, .int .u32 f)]).run Tryz.prog w = .ok (.agg (SC 162 (hanV H C (fun _ => 0) R P 0 f))) w := by kernel_rfl
theorem exec_pai {a : Act} {o : Oper} {w : World} {x y z u : Operand} (ho : o.op = .build 41 #[(0, x), (1, y), (2, z), (3, u)]) {S R : Nat → Int} {l f : Int} (hx : a.eval x = .agg (WA .u8 32 S)) (hy : a.eval y = .agg (WA .u8 32 R)) (hz : a.eval z = .int .u32 l) (hu : a.eval u = .int .u32 f) : (execOp a.eval o).run Tryz.prog w = .ok (.value (.agg (SC 66 (paiV S R l f)))) w := by
 have h := run_pai S R l f w
 unfold execOp
 simp only [ho, List.map_toArray, List.map_cons, List.map_nil, hx, hy, hz, hu, Sem.run_bind, h, Result.andThen_ok, Sem.run_pure]
theorem exec_hanB {a : Act} {o : Oper} {w : World} {x y z u q : Operand} (ho : o.op = .build 31 #[(0, x), (1, y), (2, z), (4, u), (5, q)]) {H C O P : Nat → Int} {l : Int} (hx : a.eval x = .agg (WA .u8 32 H)) (hy : a.eval y = .agg (WA .u8 32 C)) (hz : a.eval z = .agg (WA .u8 32 O)) (hu : a.eval u = .agg (WA .u8 32 P)) (hq : a.eval q = .int .u32 l) : (execOp a.eval o).run Tryz.prog w = .ok (.value (.agg (SC 162 (hanV H C O (fun _ => 0) P l 0)))) w := by
 have h := run_hanB H C O P l w
 unfold execOp
 simp only [ho, List.map_toArray, List.map_cons, List.map_nil, hx, hy, hz, hu, hq, Sem.run_bind, h, Result.andThen_ok, Sem.run_pure]
theorem exec_hanA {a : Act} {o : Oper} {w : World} {x y z u q : Operand} (ho : o.op = .build 31 #[(0, x), (1, y), (3, z), (4, u), (6, q)]) {H C R P : Nat → Int} {f : Int} (hx : a.eval x = .agg (WA .u8 32 H)) (hy : a.eval y = .agg (WA .u8 32 C)) (hz : a.eval z = .agg (WA .u8 32 R)) (hu : a.eval u = .agg (WA .u8 32 P)) (hq : a.eval q = .int .u32 f) : (execOp a.eval o).run Tryz.prog w = .ok (.value (.agg (SC 162 (hanV H C (fun _ => 0) R P 0 f)))) w := by
 have h := run_hanA H C R P f w
 unfold execOp
 simp only [ho, List.map_toArray, List.map_cons, List.map_nil, hx, hy, hz, hu, hq, Sem.run_bind, h, Result.andThen_ok, Sem.run_pure]
end Go.Proofs.YthghcjepdhkfdaaGreatDoor

/-
  Own text. The document's answer for noise: Cookie.
-/
namespace Go.Proofs.YthghcjepdhkfdaaGreatDoor
open Go.RowKit Go.Proofs
set_option maxRecDepth 100000
end Go.Proofs.YthghcjepdhkfdaaGreatDoor

/-
  Own text. The document's answer for noise: the first message.
-/
namespace Go.Proofs.YthghcjepdhkfdaaGreatDoor
open Go.RowKit Go.Proofs
set_option maxRecDepth 100000
theorem touch_G {v0 : World} {b : Nat} {c : Cont} (w w' : World) (h : Touch (fun x => x = b) v0 w) (ht : Touch (fun k => v0.heap.size ≤ k ∨ k ∈ [(b, c)].map (·.1)) w w') : Touch (fun x => x = b) v0 w' :=
 ⟨ht.os.trans h.os, ht.tape.trans h.tape, ht.output.trans h.output, Nat.le_trans h.size ht.size, fun k hk hn => (ht.block k (by have := h.size; omega) (fun e => e.elim (fun e => by omega) (fun e => hn (by simpa using e)))).trans (h.block k hk hn)⟩
theorem res_tct {fn : Func} {p q r : Tmp} {ty : TypeId} (h : fn.results = #[.tmp p, .cell q ty, .tmp r]) {tmps : Array Value} {w : World} {g n : Nat} {V : Nat → Value} {x z : Value} (hA : IsSt ty n) (hg : SAt w g ty n V) (hp : tmps.getD p undef = x) (hq : tmps.getD q undef = .pointer (some ⟨g, 0, none⟩)) (hr : tmps.getD r undef = z) :
  (results fn tmps).run Tryz.prog w = .ok (.tuple #[x, .agg (SC n V), z]) w := by
 obtain ⟨d, h1, h2, h3⟩ := hA
 have hp' : tmps[p]?.getD undef = x := by simpa using hp
 have hq' : tmps[q]?.getD undef = .pointer (some ⟨g, 0, none⟩) := by simpa using hq
 have hr' : tmps[r]?.getD undef = z := by simpa using hr
 have := run_loadVar_row (P := Tryz.prog) w g ty ty (SC n V) (0, 0) _ hg h1 (by cases d <;> first | rfl | exact h2) (by rw [SC_size]; exact h3)
 simp [results, h, hp', hq', hr', asAddr, this]
theorem zeroHand : Tryz.zeroCells31 = SC 162 hanZ := by kernel_rfl
theorem wl_alloc32 {ops : Array Oper} {rest : List Oper} {d : Option Tmp} {t : TypeId} {ps : String} {af : Array Edge} {a : Act} {w : World} {Q : Exit → Act → World → Prop}
  (h : ∀ w', ArrAt w' w.heap.size .u8 22 32 (fun _ => 0) → Below w.heap.size w w' → wpList Tryz.prog ops Q rest (a.put d (.pointer (some ⟨w.heap.size, 0, none⟩))) w') :
  wpList Tryz.prog ops Q ({ dst := d, op := .alloc 22, type := t, pos := ps, after := af, guard := none } :: rest) a w :=
 wl_act rfl (act_alloc zero32 rfl (fun w' hb hg => h w' hg hb))
theorem act_st7 {o : Oper} {a : Act} {w : World} {K : Act → World → Prop} {Q : Exit → Act → World → Prop} {x y : Operand} {ty : TypeId} {g n : Nat} {V V' : Nat → Value} (ho : o.op = .store ty x y)
  (hA : IsSt ty n) (h1 : ∀ i, (V i).oneCell' = true) (hx : a.eval x = .pointer (some ⟨g, 0, none⟩)) (hy : a.eval y = .agg (SC n V)) (hg : SAt w g ty n V')
  (h : ∀ w2, SAt w2 g ty n V → Only g w w2 → K (a.put o.dst undef) w2) : o.wp Tryz.prog a w K Q := by
 obtain ⟨_, _, _, h3⟩ := hA
 have hrun := run_storeVar_row (P := Tryz.prog) w g ty ty (SC n V') (SC n V) hg (by rw [SC_size]; exact h3) (by rw [SC_size, SC_size]) (SC_one h1)
 unfold Oper.wp execOp
 simp only [ho, hx, hy, Instr.storeAt, Instr.sureAddr, Sem.run_bind, Sem.run_pure, Result.andThen_ok, hrun]
 exact h _ (setRow_heap w g (SC n V') (SC n V) ty (0, 0) hg) (only_setRow w g _)
def bgL1 (P E C0 : Nat → Int) : Nat → Nat → Int := chn (chn C0 (mkS 32 (pubF E)) 0) (mkS 32 (shF E P))
def bgA (O P E H0 C0 : Nat → Int) : ByteArray := boxT (bgL1 P E C0 1) non0 (mkS 32 (pubF O)) (mkS 32 (mixH H0 (mkS 32 (pubF E))))
def bgL2 (O P E C0 : Nat → Int) : Nat → Nat → Int := chn (bgL1 P E C0 0) (mkS 32 (shF O P))
def bgH2 (O P E H0 C0 : Nat → Int) : Nat → Int := mixH (mixH H0 (mkS 32 (pubF E))) (bgA O P E H0 C0)
def bgB (O P E T H0 C0 : Nat → Int) : ByteArray := boxT (bgL2 O P E C0 1) non0 (mkS 12 T) (mkS 32 (bgH2 O P E H0 C0))
def bgH3 (O P E T H0 C0 : Nat → Int) : Nat → Int := mixH (bgH2 O P E H0 C0) (bgB O P E T H0 C0)
def BeginR (O P E T H0 C0 : Nat → Int) (ix : Int) : Value := if shZ E P = true ∧ shZ O P = true then .tuple #[.string (⟨#[1, 0, 0, 0]⟩ ++ fourT ix ++ mkS 32 (pubF E) ++ bgA O P E H0 C0 ++ bgB O P E T H0 C0), .agg (SC 162 (hanV (bgH3 O P E T H0 C0) (bgL2 O P E C0 0) E (fun _ => 0) P ix 0)), .int .i64 0] else .tuple #[.string ⟨#[]⟩, .agg (SC 162 hanZ), .int .i64 18]
theorem begH_b (t : Nat → Int) (n : Nat) : Byts n (begH t) := mixH_b _ _ n
end Go.Proofs.YthghcjepdhkfdaaGreatDoor

/-
  Own text. What round of package blake gives: a round of the ten.
-/
namespace Go.Proofs.YthghcjepdhkfdaaGreatDoor
open Go.RowKit Go.Proofs
set_option maxRecDepth 100000
def rndM (s m : Nat → Int) : Nat → Int :=
 mrow (mrow (mrow (mrow (mrow (mrow (mrow (mrow (s) 0 4 8 12 (m 0) (m 1)) 1 5 9 13 (m 2) (m 3)) 2 6 10 14 (m 4) (m 5)) 3 7 11 15 (m 6) (m 7)) 0 5 10 15 (m 8) (m 9)) 1 6 11 12 (m 10) (m 11)) 2 7 8 13 (m 12) (m 13)) 3 4 9 14 (m 14) (m 15)
theorem isW : IsArr 238 16 := ⟨_, _, Tryz.underlying238, by kernel_rfl⟩
theorem round_eq (m : Nat → Int) (k : Nat) (v : Nat → Int) : diaB m k (colB m k v 4) 4 = rndM v (fun j => m (ord k j)) := by
 have e : diaB m k (colB m k v 4) 4 = mixR (mixR (mixR (mixR (mixR (mixR (mixR (mixR (v) 0 4 8 12 (m (ord k 0)) (m (ord k 1))) 1 5 9 13 (m (ord k 2)) (m (ord k 3))) 2 6 10 14 (m (ord k 4)) (m (ord k 5))) 3 7 11 15 (m (ord k 6)) (m (ord k 7))) 0 5 10 15 (m (ord k 8)) (m (ord k 9))) 1 6 11 12 (m (ord k 10)) (m (ord k 11))) 2 7 8 13 (m (ord k 12)) (m (ord k 13))) 3 4 9 14 (m (ord k 14)) (m (ord k 15)) := rfl
 rw [e]
 simp only [mixR_eq _ _ _ (show (0 : Nat) ≠ 4 by decide) (show (0 : Nat) ≠ 8 by decide) (show (0 : Nat) ≠ 12 by decide) (show (4 : Nat) ≠ 8 by decide) (show (4 : Nat) ≠ 12 by decide) (show (8 : Nat) ≠ 12 by decide),
  mixR_eq _ _ _ (show (1 : Nat) ≠ 5 by decide) (show (1 : Nat) ≠ 9 by decide) (show (1 : Nat) ≠ 13 by decide) (show (5 : Nat) ≠ 9 by decide) (show (5 : Nat) ≠ 13 by decide) (show (9 : Nat) ≠ 13 by decide),
  mixR_eq _ _ _ (show (2 : Nat) ≠ 6 by decide) (show (2 : Nat) ≠ 10 by decide) (show (2 : Nat) ≠ 14 by decide) (show (6 : Nat) ≠ 10 by decide) (show (6 : Nat) ≠ 14 by decide) (show (10 : Nat) ≠ 14 by decide),
  mixR_eq _ _ _ (show (3 : Nat) ≠ 7 by decide) (show (3 : Nat) ≠ 11 by decide) (show (3 : Nat) ≠ 15 by decide) (show (7 : Nat) ≠ 11 by decide) (show (7 : Nat) ≠ 15 by decide) (show (11 : Nat) ≠ 15 by decide),
  mixR_eq _ _ _ (show (0 : Nat) ≠ 5 by decide) (show (0 : Nat) ≠ 10 by decide) (show (0 : Nat) ≠ 15 by decide) (show (5 : Nat) ≠ 10 by decide) (show (5 : Nat) ≠ 15 by decide) (show (10 : Nat) ≠ 15 by decide),
  mixR_eq _ _ _ (show (1 : Nat) ≠ 6 by decide) (show (1 : Nat) ≠ 11 by decide) (show (1 : Nat) ≠ 12 by decide) (show (6 : Nat) ≠ 11 by decide) (show (6 : Nat) ≠ 12 by decide) (show (11 : Nat) ≠ 12 by decide),
  mixR_eq _ _ _ (show (2 : Nat) ≠ 7 by decide) (show (2 : Nat) ≠ 8 by decide) (show (2 : Nat) ≠ 13 by decide) (show (7 : Nat) ≠ 8 by decide) (show (7 : Nat) ≠ 13 by decide) (show (8 : Nat) ≠ 13 by decide),
  mixR_eq _ _ _ (show (3 : Nat) ≠ 4 by decide) (show (3 : Nat) ≠ 9 by decide) (show (3 : Nat) ≠ 14 by decide) (show (4 : Nat) ≠ 9 by decide) (show (4 : Nat) ≠ 14 by decide) (show (9 : Nat) ≠ 14 by decide)]
 rfl
theorem rndM_w {s m : Nat → Int} (h : ∀ i, i < 16 → W32 (s i)) : ∀ i, i < 16 → W32 (rndM s m i) := mrow_w (mrow_w (mrow_w (mrow_w (mrow_w (mrow_w (mrow_w (mrow_w (h) (by decide) (by decide)) (by decide) (by decide)) (by decide) (by decide)) (by decide) (by decide)) (by decide) (by decide)) (by decide) (by decide)) (by decide) (by decide)) (by decide) (by decide)
set_option maxHeartbeats 8000000 in
set_option maxRecDepth 100000 in
theorem round_run (s0 m : Nat → Int) (w : World) (W0 : ∀ i, i < 16 → W32 (s0 i)) :
  Calls Tryz.prog 214 #[.agg (WA .u32 16 s0), .agg (WA .u32 16 m)] w fun e w' => e = .returned (.agg (WA .u32 16 (rndM s0 m))) ∧ Below w.heap.size w w' := by
 have g : ArrAt (((w.alloc (.cells (WA .u32 16 s0) 238)).alloc (.cells (WA .u32 16 m) 238)).alloc (.cells (WA .u32 16 fun _ => 0) 238)) w.heap.size .u32 238 16 s0 := heap_a31 w _ _ _
 have gm : ArrAt (((w.alloc (.cells (WA .u32 16 s0) 238)).alloc (.cells (WA .u32 16 m) 238)).alloc (.cells (WA .u32 16 fun _ => 0) 238)) (w.heap.size + 1) .u32 238 16 m := heap_a32 w _ _ _
 have g1 : ArrAt (((w.alloc (.cells (WA .u32 16 s0) 238)).alloc (.cells (WA .u32 16 m) 238)).alloc (.cells (WA .u32 16 fun _ => 0) 238)) (w.heap.size + 1 + 1) .u32 238 16 (fun _ => 0) := heap_a3 w _ _ _
 have hB : Below w.heap.size w (((w.alloc (.cells (WA .u32 16 s0) 238)).alloc (.cells (WA .u32 16 m) 238)).alloc (.cells (WA .u32 16 fun _ => 0) 238)) := (((Below.refl _ w).alloc (by simp) _).alloc (by simp) _).alloc (by simp; omega) _
 obtain ⟨z, hz⟩ : ∃ z, rndM s0 m = z := ⟨_, rfl⟩
 rw [hz]
 have HN := Hid.mk hz
 clear hz
 unfold rndM at HN
 go_enter Tryz.func214, Tryz.ntmps214
 go_wp2_with (first | (refine ld_cell g (by rfl) (by decide) ?_) | (refine ld_cell gm (by rfl) (by decide) ?_))
 refine (mixed_run (s0 0) (s0 4) (s0 8) (s0 12) (m 0) (m 1) _ (W0 4 (by decide)) (W0 12 (by decide))).mono ?_
 rintro e vq ⟨rfl, rfl⟩
 go_wp2_with (first | (refine st_cell (i := 12) g (by rfl) (by rfl) (by decide) ?_; clear g; intro v2 g o2; replace gm := gm.only o2 (by omega); replace g1 := g1.only o2 (by omega); replace hB := hB.trans (o2.below (Nat.le_refl _)); clear o2; refine Hid.out ?_) | (refine st_cell g (by rfl) (by rfl) (by decide) ?_; clear g; intro v2 g o2; replace gm := gm.only o2 (by omega); replace g1 := g1.only o2 (by omega); replace hB := hB.trans (o2.below (Nat.le_refl _)); clear o2))
 replace g : ArrAt v2 w.heap.size .u32 238 16 (mrow s0 0 4 8 12 (m 0) (m 1)) := g
 have W1 := mrow_w (a := 0) (b := 4) (c := 8) (d := 12) (x := (m 0)) (y := (m 1)) W0 (by decide) (by decide)
 generalize mrow s0 0 4 8 12 (m 0) (m 1) = s1 at *
 clear W0
 refine Hid.mk ?_
 go_wp2_with (first | (refine ld_cell g (by rfl) (by decide) ?_) | (refine ld_cell gm (by rfl) (by decide) ?_))
 refine (mixed_run (s1 1) (s1 5) (s1 9) (s1 13) (m 2) (m 3) _ (W1 5 (by decide)) (W1 13 (by decide))).mono ?_
 rintro e vq ⟨rfl, rfl⟩
 go_wp2_with (first | (refine st_cell (i := 13) g (by rfl) (by rfl) (by decide) ?_; clear g; intro v2 g o2; replace gm := gm.only o2 (by omega); replace g1 := g1.only o2 (by omega); replace hB := hB.trans (o2.below (Nat.le_refl _)); clear o2; refine Hid.out ?_) | (refine st_cell g (by rfl) (by rfl) (by decide) ?_; clear g; intro v2 g o2; replace gm := gm.only o2 (by omega); replace g1 := g1.only o2 (by omega); replace hB := hB.trans (o2.below (Nat.le_refl _)); clear o2))
 replace g : ArrAt v2 w.heap.size .u32 238 16 (mrow s1 1 5 9 13 (m 2) (m 3)) := g
 have W2 := mrow_w (a := 1) (b := 5) (c := 9) (d := 13) (x := (m 2)) (y := (m 3)) W1 (by decide) (by decide)
 generalize mrow s1 1 5 9 13 (m 2) (m 3) = s2 at *
 clear W1
 refine Hid.mk ?_
 go_wp2_with (first | (refine ld_cell g (by rfl) (by decide) ?_) | (refine ld_cell gm (by rfl) (by decide) ?_))
 refine (mixed_run (s2 2) (s2 6) (s2 10) (s2 14) (m 4) (m 5) _ (W2 6 (by decide)) (W2 14 (by decide))).mono ?_
 rintro e vq ⟨rfl, rfl⟩
 go_wp2_with (first | (refine st_cell (i := 14) g (by rfl) (by rfl) (by decide) ?_; clear g; intro v2 g o2; replace gm := gm.only o2 (by omega); replace g1 := g1.only o2 (by omega); replace hB := hB.trans (o2.below (Nat.le_refl _)); clear o2; refine Hid.out ?_) | (refine st_cell g (by rfl) (by rfl) (by decide) ?_; clear g; intro v2 g o2; replace gm := gm.only o2 (by omega); replace g1 := g1.only o2 (by omega); replace hB := hB.trans (o2.below (Nat.le_refl _)); clear o2))
 replace g : ArrAt v2 w.heap.size .u32 238 16 (mrow s2 2 6 10 14 (m 4) (m 5)) := g
 have W3 := mrow_w (a := 2) (b := 6) (c := 10) (d := 14) (x := (m 4)) (y := (m 5)) W2 (by decide) (by decide)
 generalize mrow s2 2 6 10 14 (m 4) (m 5) = s3 at *
 clear W2
 refine Hid.mk ?_
 go_wp2_with (first | (refine ld_cell g (by rfl) (by decide) ?_) | (refine ld_cell gm (by rfl) (by decide) ?_))
 refine (mixed_run (s3 3) (s3 7) (s3 11) (s3 15) (m 6) (m 7) _ (W3 7 (by decide)) (W3 15 (by decide))).mono ?_
 rintro e vq ⟨rfl, rfl⟩
 go_wp2_with (first | (refine st_cell (i := 15) g (by rfl) (by rfl) (by decide) ?_; clear g; intro v2 g o2; replace gm := gm.only o2 (by omega); replace g1 := g1.only o2 (by omega); replace hB := hB.trans (o2.below (Nat.le_refl _)); clear o2; refine Hid.out ?_) | (refine st_cell g (by rfl) (by rfl) (by decide) ?_; clear g; intro v2 g o2; replace gm := gm.only o2 (by omega); replace g1 := g1.only o2 (by omega); replace hB := hB.trans (o2.below (Nat.le_refl _)); clear o2))
 replace g : ArrAt v2 w.heap.size .u32 238 16 (mrow s3 3 7 11 15 (m 6) (m 7)) := g
 have W4 := mrow_w (a := 3) (b := 7) (c := 11) (d := 15) (x := (m 6)) (y := (m 7)) W3 (by decide) (by decide)
 generalize mrow s3 3 7 11 15 (m 6) (m 7) = s4 at *
 clear W3
 refine Hid.mk ?_
 go_wp2_with (first | (refine ld_cell g (by rfl) (by decide) ?_) | (refine ld_cell gm (by rfl) (by decide) ?_))
 refine (mixed_run (s4 0) (s4 5) (s4 10) (s4 15) (m 8) (m 9) _ (W4 5 (by decide)) (W4 15 (by decide))).mono ?_
 rintro e vq ⟨rfl, rfl⟩
 go_wp2_with (first | (refine st_cell (i := 15) g (by rfl) (by rfl) (by decide) ?_; clear g; intro v2 g o2; replace gm := gm.only o2 (by omega); replace g1 := g1.only o2 (by omega); replace hB := hB.trans (o2.below (Nat.le_refl _)); clear o2; refine Hid.out ?_) | (refine st_cell g (by rfl) (by rfl) (by decide) ?_; clear g; intro v2 g o2; replace gm := gm.only o2 (by omega); replace g1 := g1.only o2 (by omega); replace hB := hB.trans (o2.below (Nat.le_refl _)); clear o2))
 replace g : ArrAt v2 w.heap.size .u32 238 16 (mrow s4 0 5 10 15 (m 8) (m 9)) := g
 have W5 := mrow_w (a := 0) (b := 5) (c := 10) (d := 15) (x := (m 8)) (y := (m 9)) W4 (by decide) (by decide)
 generalize mrow s4 0 5 10 15 (m 8) (m 9) = s5 at *
 clear W4
 refine Hid.mk ?_
 go_wp2_with (first | (refine ld_cell g (by rfl) (by decide) ?_) | (refine ld_cell gm (by rfl) (by decide) ?_))
 refine (mixed_run (s5 1) (s5 6) (s5 11) (s5 12) (m 10) (m 11) _ (W5 6 (by decide)) (W5 12 (by decide))).mono ?_
 rintro e vq ⟨rfl, rfl⟩
 go_wp2_with (first | (refine st_cell (i := 12) g (by rfl) (by rfl) (by decide) ?_; clear g; intro v2 g o2; replace gm := gm.only o2 (by omega); replace g1 := g1.only o2 (by omega); replace hB := hB.trans (o2.below (Nat.le_refl _)); clear o2; refine Hid.out ?_) | (refine st_cell g (by rfl) (by rfl) (by decide) ?_; clear g; intro v2 g o2; replace gm := gm.only o2 (by omega); replace g1 := g1.only o2 (by omega); replace hB := hB.trans (o2.below (Nat.le_refl _)); clear o2))
 replace g : ArrAt v2 w.heap.size .u32 238 16 (mrow s5 1 6 11 12 (m 10) (m 11)) := g
 have W6 := mrow_w (a := 1) (b := 6) (c := 11) (d := 12) (x := (m 10)) (y := (m 11)) W5 (by decide) (by decide)
 generalize mrow s5 1 6 11 12 (m 10) (m 11) = s6 at *
 clear W5
 refine Hid.mk ?_
 go_wp2_with (first | (refine ld_cell g (by rfl) (by decide) ?_) | (refine ld_cell gm (by rfl) (by decide) ?_))
 refine (mixed_run (s6 2) (s6 7) (s6 8) (s6 13) (m 12) (m 13) _ (W6 7 (by decide)) (W6 13 (by decide))).mono ?_
 rintro e vq ⟨rfl, rfl⟩
 go_wp2_with (first | (refine st_cell (i := 13) g (by rfl) (by rfl) (by decide) ?_; clear g; intro v2 g o2; replace gm := gm.only o2 (by omega); replace g1 := g1.only o2 (by omega); replace hB := hB.trans (o2.below (Nat.le_refl _)); clear o2; refine Hid.out ?_) | (refine st_cell g (by rfl) (by rfl) (by decide) ?_; clear g; intro v2 g o2; replace gm := gm.only o2 (by omega); replace g1 := g1.only o2 (by omega); replace hB := hB.trans (o2.below (Nat.le_refl _)); clear o2))
 replace g : ArrAt v2 w.heap.size .u32 238 16 (mrow s6 2 7 8 13 (m 12) (m 13)) := g
 have W7 := mrow_w (a := 2) (b := 7) (c := 8) (d := 13) (x := (m 12)) (y := (m 13)) W6 (by decide) (by decide)
 generalize mrow s6 2 7 8 13 (m 12) (m 13) = s7 at *
 clear W6
 refine Hid.mk ?_
 go_wp2_with (first | (refine ld_cell g (by rfl) (by decide) ?_) | (refine ld_cell gm (by rfl) (by decide) ?_))
 refine (mixed_run (s7 3) (s7 4) (s7 9) (s7 14) (m 14) (m 15) _ (W7 4 (by decide)) (W7 14 (by decide))).mono ?_
 rintro e vq ⟨rfl, rfl⟩
 go_wp2_with (first | (refine st_cell (i := 14) g (by rfl) (by rfl) (by decide) ?_; clear g; intro v2 g o2; replace gm := gm.only o2 (by omega); replace g1 := g1.only o2 (by omega); replace hB := hB.trans (o2.below (Nat.le_refl _)); clear o2; refine Hid.out ?_) | (refine st_cell g (by rfl) (by rfl) (by decide) ?_; clear g; intro v2 g o2; replace gm := gm.only o2 (by omega); replace g1 := g1.only o2 (by omega); replace hB := hB.trans (o2.below (Nat.le_refl _)); clear o2))
 replace g : ArrAt v2 w.heap.size .u32 238 16 (mrow s7 3 4 9 14 (m 14) (m 15)) := g
 have W8 := mrow_w (a := 3) (b := 4) (c := 9) (d := 14) (x := (m 14)) (y := (m 15)) W7 (by decide) (by decide)
 rw [HN.out] at g
 refine Hid.mk ?_
 go_wp2_with (first | (refine ld_arr isW g (by rfl) ?_) | (refine st_arr isW g1 (by rfl) (by rfl) ?_; intro v4 g4 o4))
 exact bodyPost_ret (v := .agg (WA .u32 16 z)) (res_arr rfl isW g4 rfl) rfl ⟨rfl, hB.trans (o4.below (by omega))⟩
end Go.Proofs.YthghcjepdhkfdaaGreatDoor

