/-
  Own text. Package noise: the steps of the second message, made and read.
-/
import Derived.Test.YthghcjepdhkfdaaGreatDoorJM10
import Derived.Test.YthghcjepdhkfdaaGreatDoorJM8
import Derived.Test.YthghcjepdhkfdaaGreatDoorJM9
import Derived.Test.YthghcjepdhkfdaaGreatDoorJM7
import Derived.Test.YthghcjepdhkfdaaGreatDoorJM1
import Derived.Test.YthghcjepdhkfdaaGreatDoorRows
import Derived.SliceStrings
import Derived.Test.YthghcjepdhkfdaaGreatDoorJM6
import Derived.OpenShut
namespace Go.Proofs.YthghcjepdhkfdaaGreatDoor
open Go.RowKit Go.Proofs
set_option maxRecDepth 100000
theorem enterSealK (args : Array Value) (w : World) : (callFunc 82 args).run Tryz.prog w = .ok (.enter 82 args) w := by kernel_rfl
theorem enterResT (args : Array Value) (w : World) : (callFunc 95 args).run Tryz.prog w = .ok (.enter 95 args) w := by kernel_rfl
theorem zeroR (w : World) : (zeroValue 129).run Tryz.prog w = .ok (.agg (SC 35 resZ)) w := by kernel_rfl
theorem wl_allocR {ops : Array Oper} {rest : List Oper} {d : Option Tmp} {t : TypeId} {ps : String} {af : Array Edge} {a : Act} {w : World} {Q : Exit → Act → World → Prop}
  (h : ∀ w', SAt w' w.heap.size 129 35 resZ → Below w.heap.size w w' → wpList Tryz.prog ops Q rest (a.put d (.pointer (some ⟨w.heap.size, 0, none⟩))) w') :
  wpList Tryz.prog ops Q ({ dst := d, op := .alloc 129, type := t, pos := ps, after := af, guard := none } :: rest) a w :=
 wl_act rfl (act_alloc zeroR rfl (fun w' hb hg => h w' hg hb))
theorem stepk {fi : FuncId} (hc : ∀ args w, (callFunc fi args).run Tryz.prog w = .ok (.enter fi args) w) {xs : Array Operand} {ts : Array TypeId} {o : Oper} {a : Act} {w : World} {J : Act → World → Prop} {Q : Exit → Act → World → Prop}
  (ho : o.op = .call { callee := .value (.func fi), args := xs, argTypes := ts }) {vs : Array Value} {v : Value} {b : Nat} {H C K : Nat → Int} (hx : xs.map a.eval = vs) (hC : Calls Tryz.prog fi vs w fun r w' => r = .returned v ∧ KtAt w' b H C K ∧ Touch (fun x => x = b) w w')
  (h : ∀ w', KtAt w' b H C K → Touch (fun x => x = b) w w' → J (a.put o.dst v) w') : o.wp Tryz.prog a w J Q :=
 stepp hc ho hx (hC.mono (fun e w' ⟨he, hb⟩ => ⟨v, he, rfl, hb⟩)) (R := fun u w' => u = v ∧ KtAt w' b H C K ∧ Touch (fun x => x = b) w w') (fun u w' ⟨hu, h1, h2⟩ => by subst hu; exact h w' h1 h2)
theorem wl_alloc2 {ops : Array Oper} {rest : List Oper} {d e : Option Tmp} {t t' : TypeId} {ps ps' : String} {af af' : Array Edge} {a : Act} {w : World} {Q : Exit → Act → World → Prop}
  (h : ∀ w1 w2, w.heap.size < w1.heap.size → ArrAt w2 w.heap.size .u8 22 32 (fun _ => 0) → ArrAt w2 w1.heap.size .u8 22 32 (fun _ => 0) → Below w.heap.size w w1 → Below w1.heap.size w1 w2 → wpList Tryz.prog ops Q rest ((a.put d (.pointer (some ⟨w.heap.size, 0, none⟩))).put e (.pointer (some ⟨w1.heap.size, 0, none⟩))) w2) :
  wpList Tryz.prog ops Q ({ dst := d, op := .alloc 22, type := t, pos := ps, after := af, guard := none } :: { dst := e, op := .alloc 22, type := t', pos := ps', after := af', guard := none } :: rest) a w :=
 wl_alloc32 (fun w1 g1 hb1 => wl_alloc32 (fun w2 g2 hb2 => h w1 w2 g1.lt (g1.kept hb2) g2 hb1 hb2))
def answerE (H C R P S E : Nat → Int) (f ix : Int) : Ending := if shZ E R = true ∧ shZ E P = true then .returned (.tuple #[.string (ansM H C R P S E f ix), .agg (SC 66 (paiV (anN C R P S E 1) (anN C R P S E 0) ix f))]) else gup 18
set_option linter.unusedVariables false in
set_option maxHeartbeats 4000000 in
set_option maxRecDepth 100000 in
theorem answer_run (H C O R P S E : Nat → Int) (l f ix : Int) (w : World) (hE : Env w) (hH : Byts 32 H) (hC : Byts 32 C) (hR : Byts 32 R) (hP : Byts 32 P) (hS : Byts 32 S) (hEk : Byts 32 E) :
  Calls Tryz.prog 51 #[.agg (SC 162 (hanV H C O R P l f)), .agg (WA .u8 32 S), .agg (WA .u8 32 E), .int .u32 ix] w fun e w' => e = answerE H C R P S E f ix ∧ Below w.heap.size w w' := by
 have g0 : SAt ((((w.alloc (.cells (SC 162 (hanV H C O R P l f)) 31)).alloc (.cells (WA .u8 32 S) 22)).alloc (.cells (WA .u8 32 E) 22)).alloc (.cells Tryz.zeroCells41 41)) w.heap.size 31 162 (hanV H C O R P l f) := SAt.kept (heap_a31 w _ _ _) ((Below.refl _ _).alloc (Nat.le_refl _) _)
 have g1 : ArrAt ((((w.alloc (.cells (SC 162 (hanV H C O R P l f)) 31)).alloc (.cells (WA .u8 32 S) 22)).alloc (.cells (WA .u8 32 E) 22)).alloc (.cells Tryz.zeroCells41 41)) (w.heap.size + 1) .u8 22 32 S := ArrAt.kept (heap_a32 w _ _ _) ((Below.refl _ _).alloc (Nat.le_refl _) _)
 have g2 : ArrAt ((((w.alloc (.cells (SC 162 (hanV H C O R P l f)) 31)).alloc (.cells (WA .u8 32 S) 22)).alloc (.cells (WA .u8 32 E) 22)).alloc (.cells Tryz.zeroCells41 41)) (w.heap.size + 1 + 1) .u8 22 32 E := ArrAt.kept (heap_a3 w _ _ _) ((Below.refl _ _).alloc (Nat.le_refl _) _)
 have gP : SAt ((((w.alloc (.cells (SC 162 (hanV H C O R P l f)) 31)).alloc (.cells (WA .u8 32 S) 22)).alloc (.cells (WA .u8 32 E) 22)).alloc (.cells Tryz.zeroCells41 41)) (w.heap.size + 1 + 1 + 1) 41 66 paiZ := by
  have h := heap_a4 w (.cells (SC 162 (hanV H C O R P l f)) 31) (.cells (WA .u8 32 S) 22) (.cells (WA .u8 32 E) 22) (.cells Tryz.zeroCells41 41)
  unfold SAt
  rw [← zeroPair]
  exact h
 have hB : Below w.heap.size w ((((w.alloc (.cells (SC 162 (hanV H C O R P l f)) 31)).alloc (.cells (WA .u8 32 S) 22)).alloc (.cells (WA .u8 32 E) 22)).alloc (.cells Tryz.zeroCells41 41)) := ((((Below.refl _ w).alloc (by simp) _).alloc (by simp) _).alloc (by simp; omega) _).alloc (by simp; omega) _
 replace hE := hE.kept hB
 have hmf : ∀ (fn : Fn) (first cap : Array Value) (w : World), (Instr.makeFunc fn first cap).run Tryz.prog w = .ok (.func fn first cap) w := fun _ _ _ _ => rfl
 have HP := Hid.mk hE.2
 go_enter Tryz.func51, Tryz.ntmps51
 go_wp2_with (refine ld_arr isArr32 g2 (by rfl) ?_)
 refine (Public_run E _ HP.out hEk).mono ?_
 rintro x v1 ⟨rfl, hb⟩
 replace g0 := g0.kept hb
 replace g1 := g1.kept hb
 replace g2 := g2.kept hb
 replace gP := gP.kept hb
 replace hE := hE.kept hb
 replace hB := hB.trans (hb.mono hB.size)
 clear hb
 
 clear HP
 have lag0 := g0.lt
 have lag1 := g1.lt
 have lag2 := g2.lt
 have lagP := gP.lt
 have laB := hB.size
 have laE := hE.two
 go_wp2_with (refine wl_alloc32 ?_; intro v2a ge0 hb; refine Hid.out ?_)
 replace g0 := g0.kept hb
 replace g1 := g1.kept hb
 replace g2 := g2.kept hb
 replace gP := gP.kept hb
 replace hE := hE.kept hb
 replace hB := hB.trans (hb.mono hB.size)
 clear hb
 refine Hid.mk ?_
 go_wp2_with (refine st_arr isArr32 ge0 (by rfl) (by rfl) ?_; intro v2b ge o6; refine Hid.out ?_)
 replace g0 := g0.only o6 (by omega)
 replace g1 := g1.only o6 (by omega)
 replace g2 := g2.only o6 (by omega)
 replace gP := gP.only o6 (by omega)
 replace hE := hE.only o6 (by omega)
 replace hB := hB.trans (o6.below (by omega))
 clear o6
 clear ge0
 refine Hid.mk ?_
 
 have lbg0 := g0.lt
 have lbg1 := g1.lt
 have lbg2 := g2.lt
 have lbgP := gP.lt
 have lbge := ge.lt
 have lbB := hB.size
 have lbE := hE.two
 
 go_wp2_with (refine wl_value rfl (look_st rfl isHand g0 (by rfl)) ?_)
 refine (goingOn_run H C O R P l f _).mono ?_
 rintro x v3 ⟨b, hbb, rfl, g, hb⟩
 have hb3 : 3 ≤ b := by omega
 have hbS : w.heap.size ≤ b := by omega
 replace g0 := g0.kept hb
 replace g1 := g1.kept hb
 replace g2 := g2.kept hb
 replace gP := gP.kept hb
 replace ge := ge.kept hb
 replace hE := hE.kept hb
 replace hB := hB.trans (hb.mono hB.size)
 clear hb
 
 go_wp2_with (refine ld_arr isArr32 ge (by rfl) ?_)
 refine (ephemeralIn_run b H C _ (pubF E) _ hE hb3 g hH hC (pubF_b E 32)).mono ?_
 rintro x v4 ⟨rfl, g', t1⟩
 replace g0 := g0.tou t1 (by omega)
 replace g1 := g1.tou t1 (by omega)
 replace g2 := g2.tou t1 (by omega)
 replace gP := gP.tou t1 (by omega)
 replace ge := ge.tou t1 (by omega)
 replace hE := hE.touch t1 hb3
 replace hB := belowT hB t1 hbS (Nat.le_refl _)
 clear t1
 clear g
 have g := g'
 clear g'
 obtain ⟨et, hete⟩ : ∃ X, mkS 32 (pubF E) = X := ⟨_, rfl⟩
 rw [hete] at g
 obtain ⟨H1, hH1e⟩ : ∃ X, mixH H et = X := ⟨_, rfl⟩
 have hH1 : Byts 32 H1 := hH1e ▸ mixH_b _ _ 32
 obtain ⟨C1, hC1e⟩ : ∃ X, chn C et 0 = X := ⟨_, rfl⟩
 have hC1 : Byts 32 C1 := hC1e ▸ chn_b _ _ 0 32
 rw [hH1e, hC1e] at g
 have hr := han_r g0
 go_wp2_with (first | (refine ld_arr isArr32 g2 (by rfl) ?_) | (refine wl_value rfl (exec_ldmid rfl isArr32 (by rfl) hr) ?_))
 by_cases hz1 : shZ E R = true
 case neg =>
  refine (secret_no _ E R _ hE hEk hR (by simpa using hz1)).mono ?_
  rintro x v9 ⟨rfl, hb⟩
  exact ⟨rfl, (by unfold answerE; rw [if_neg (fun h => hz1 h.1)] : answerE H C R P S E f ix = gup 18).symm, hB.trans (hb.mono hB.size)⟩
 refine (secretChain_run b H1 C1 _ E R _ hE g hC1 hEk hR hz1).mono ?_
 rintro x v5 ⟨rfl, g', t1⟩
 replace g0 := g0.tou t1 (by omega)
 replace g1 := g1.tou t1 (by omega)
 replace g2 := g2.tou t1 (by omega)
 replace gP := gP.tou t1 (by omega)
 replace ge := ge.tou t1 (by omega)
 replace hE := hE.touch t1 hb3
 replace hB := belowT hB t1 hbS (Nat.le_refl _)
 clear t1
 clear g hr
 have g := g'
 clear g'
 obtain ⟨C2, hC2e⟩ : ∃ X, chn C1 (mkS 32 (shF E R)) 0 = X := ⟨_, rfl⟩
 have hC2 : Byts 32 C2 := hC2e ▸ chn_b _ _ 0 32
 rw [hC2e] at g
 have hr := han_p g0
 go_wp2_with (first | (refine ld_arr isArr32 g2 (by rfl) ?_) | (refine wl_value rfl (exec_ldmid rfl isArr32 (by rfl) hr) ?_))
 by_cases hz2 : shZ E P = true
 case neg =>
  refine (secret_no _ E P _ hE hEk hP (by simpa using hz2)).mono ?_
  rintro x v9 ⟨rfl, hb⟩
  exact ⟨rfl, (by unfold answerE; rw [if_neg (fun h => hz2 h.2)] : answerE H C R P S E f ix = gup 18).symm, hB.trans (hb.mono hB.size)⟩
 refine (secretChain_run b H1 C2 _ E P _ hE g hC2 hEk hP hz2).mono ?_
 rintro x v6 ⟨rfl, g', t1⟩
 replace g0 := g0.tou t1 (by omega)
 replace g1 := g1.tou t1 (by omega)
 replace g2 := g2.tou t1 (by omega)
 replace gP := gP.tou t1 (by omega)
 replace ge := ge.tou t1 (by omega)
 replace hE := hE.touch t1 hb3
 replace hB := belowT hB t1 hbS (Nat.le_refl _)
 clear t1
 clear g hr
 have g := g'
 clear g'
 obtain ⟨C3, hC3e⟩ : ∃ X, chn C2 (mkS 32 (shF E P)) 0 = X := ⟨_, rfl⟩
 have hC3 : Byts 32 C3 := hC3e ▸ chn_b _ _ 0 32
 rw [hC3e] at g
 go_wp2_with (refine ld_arr isArr32 g1 (by rfl) ?_)
 refine (shareIn_run b H1 C3 _ S _ hE hb3 g hH1 hC3 hS).mono ?_
 rintro x v7 ⟨rfl, g', t1⟩
 replace g0 := g0.tou t1 (by omega)
 replace g1 := g1.tou t1 (by omega)
 replace g2 := g2.tou t1 (by omega)
 replace gP := gP.tou t1 (by omega)
 replace ge := ge.tou t1 (by omega)
 replace hE := hE.touch t1 hb3
 replace hB := belowT hB t1 hbS (Nat.le_refl _)
 clear t1
 clear g
 have g := g'
 clear g'
 obtain ⟨L, hLe⟩ : ∃ X, chn C3 (mkS 32 S) = X := ⟨_, rfl⟩
 have hL : ∀ i, Byts 32 (L i) := fun i => hLe ▸ chn_b _ _ i 32
 rw [hLe] at g
 obtain ⟨H2, hH2e⟩ : ∃ X, mixH H1 (mkS 32 (L 1)) = X := ⟨_, rfl⟩
 have hH2 : Byts 32 H2 := hH2e ▸ mixH_b _ _ 32
 rw [hH2e] at g
 go_wp2_with fail
 
 have hSE := fun u gu (hu : Env u) => seal_run b H2 (L 0) (L 2) ⟨#[]⟩ u hu hb3 gu hH2 (hL 2) (of_decide_eq_true rfl)
 obtain ⟨Z, hZ⟩ : ∃ X, boxT (L 2) non0 ⟨#[]⟩ (mkS 32 H2) = X := ⟨_, rfl⟩
 have hZs : Z.size ≤ 48 := by rw [← hZ, boxT_size]; exact of_decide_eq_true rfl
 rw [hZ] at hSE
 obtain ⟨H3, hH3e⟩ : ∃ X, mixH H2 Z = X := ⟨_, rfl⟩
 rw [hH3e] at hSE
 have HSE := Hid.mk hSE
 have HEN : Hid (∀ u, Touch (fun x => x = b) v7 u → Env u) := Hid.mk (fun u hu => hE.touch hu hb3)
 have HG0 : Hid (∀ u, Touch (fun x => x = b) v7 u → SAt u w.heap.size 31 162 (hanV H C O R P l f)) := Hid.mk (fun u hu => g0.tou hu (by omega))
 have HGE : Hid (∀ u, Touch (fun x => x = b) v7 u → ArrAt u v1.heap.size .u8 22 32 (pubF E)) := Hid.mk (fun u hu => ge.tou hu (by omega))
 have hgl := g.lt
 refine wp_region3 (Touch (fun x => x = b) v7) v7.heap.size
   [(b, once (WA .u8 96 (ktF H2 (L 0) (L 2))) 121 5 (WA .u8 96 (ktF H3 (L 0) (L 2))))]
   [kv (.int .u32 ix), kv (.pointer (some ⟨w.heap.size, 161, none⟩)), kv (.int .u32 f), kv (.agg (WA .u8 32 (pubF E))), kv (.pointer (some ⟨b, 0, none⟩)), kv (.string Z), kv (.agg (SC 35 (resV ix f (pubF E) Z))), kp (SC 35 resZ) 129 8 (SC 35 (resV ix f (pubF E) Z)), .val fun _ => True]
   [.none, .none, .none, .none, .none, .base 0 1, .none, .none, .own 7 1]
   [some 37, some 38, some 39, some 40, some 41, some 42, some 43, some 12, none]
   [(3, .int .u32 ix), (4, .pointer (some ⟨w.heap.size, 0, none⟩)), (10, .pointer (some ⟨v1.heap.size, 0, none⟩)), (11, .pointer (some ⟨b, 0, none⟩))]
   [[], [], [.slot 1], [], [], [.slot 4, .base 0 0], [.slot 0, .slot 2, .slot 3, .slot 5], [], [.slot 7, .cont 7 0, .slot 6]]
   [.base 0 1, .slot 7, .cont 7 1] [37, 38, 39, 40, 41, 42, 43, 12]
   rfl (by kernel_rfl) ⟨rfl, rfl, rfl, rfl, trivial⟩ (belT b (Below.refl _ v7).drew) (Nat.le_refl _) ⟨⟨g.lt, obIn g⟩, trivial⟩ ⟨trivial, trivial⟩ touch_G
   ⟨
    (fun Q aq ww own hS hBg fr kn => .inl ⟨trivial, fun K hK => wp_value (exec_move rfl fr.1) (hK _ _ ⟨Touch.refl _ _, rfl⟩)⟩),
    (fun Q aq ww own hS hBg fr kn => .inl ⟨trivial, fun K hK => wp_value (exec_fh6 rfl fr.2.1) (hK _ _ ⟨Touch.refl _ _, rfl⟩)⟩),
    (fun Q aq ww own hS hBg fr kn => .inl ⟨trivial, fun K hK => wp_value (exec_ld rfl kn.1 (run_load32 (han_f (HG0.out ww hS)))) (hK _ _ ⟨Touch.refl _ _, rfl⟩)⟩),
    (fun Q aq ww own hS hBg fr kn => .inl ⟨trivial, fun K hK => wp_value (look_arr rfl isArr32 (HGE.out ww hS) fr.2.2.1) (hK _ _ ⟨Touch.refl _ _, rfl⟩)⟩),
    (fun Q aq ww own hS hBg fr kn => .inl ⟨trivial, fun K hK => wp_value (exec_move rfl fr.2.2.2.1) (hK _ _ ⟨Touch.refl _ _, rfl⟩)⟩),
    (fun Q aq ww own hS hBg fr kn => .inl ⟨trivial, fun K hK => stepk enterSealK rfl (args2 kn.1 rfl) (HSE.out ww (obAt kn.2.1) (HEN.out ww hS)) (fun w' hg ht => hK _ _ ⟨⟨ht, obIn hg⟩, rfl⟩)⟩),
    (fun Q aq ww own hS hBg fr kn => .inl ⟨trivial, fun K hK => wp_value (exec_resB rfl kn.1 kn.2.1 kn.2.2.1 kn.2.2.2.1) (hK _ _ ⟨Touch.refl _ _, rfl⟩)⟩),
    (fun Q aq ww own hS hBg fr kn => .inl ⟨trivial, fun K hK => act_alloc zeroR rfl (fun w' hb hg => hK _ _ ⟨touch_below hb, _, Nat.le_refl _, rfl, obIn hg⟩)⟩),
    (fun Q aq ww own hS hBg fr kn => .inl ⟨trivial, fun K hK => act_st7 rfl is_res (resV_one _ _ _ _) kn.1.1 kn.2.2.1 (obAt kn.2.1) (fun w2 hg ho => hK _ _ ⟨touch_only ho, obIn hg, trivial⟩)⟩),
    trivial⟩ ?_
 intro vs own v8 t1 hsz kn inj
 clear inj hsz HSE HEN HG0 HGE hSE
 obtain ⟨k1, k2, k3, -⟩ := kn
 have g' : KtAt v8 b H3 (L 0) (L 2) := obAt k1
 obtain ⟨e12, hb12, _⟩ := k2
 change vs 12 = _ at e12
 have gr : SAt v8 (own 7) 129 35 (resV ix f (pubF E) Z) := obAt k3
 clear k1 k3
 replace g0 := g0.tou t1 (by omega)
 replace g1 := g1.tou t1 (by omega)
 replace g2 := g2.tou t1 (by omega)
 replace gP := gP.tou t1 (by omega)
 replace ge := ge.tou t1 (by omega)
 replace hE := hE.touch t1 hb3
 replace hB := belowT hB t1 hbS (Nat.le_refl _)
 clear t1
 
 clear g
 have g := g'
 clear g'
 simp only [putAll, Act.put, List.setIfInBounds_toArray, List.set_cons_zero, List.set_cons_succ, e12]
 generalize own 7 = br at *
 have hbr : b < br := by omega
 clear e12 hb12
 go_wp2_with fail
 refine (ends_run b _ (L 0) _ _ hE g (hL 0)).mono ?_
 rintro x v9 ⟨rfl, hb⟩
 replace g0 := g0.kept hb
 replace g1 := g1.kept hb
 replace g2 := g2.kept hb
 replace gP := gP.kept hb
 replace ge := ge.kept hb
 replace gr := gr.kept hb
 replace g := g.kept hb
 replace hE := hE.kept hb
 replace hB := hB.trans (hb.mono hB.size)
 clear hb
 obtain ⟨N, hNe⟩ : ∃ X, chn (L 0) ⟨#[]⟩ = X := ⟨_, rfl⟩
 rw [hNe]
 have lcg0 := g0.lt
 have lcg1 := g1.lt
 have lcg2 := g2.lt
 have lcgP := gP.lt
 have lcge := ge.lt
 have lcgr := gr.lt
 have lcg := g.lt
 have lcB := hB.size
 have lcE := hE.two
 go_wp2_with (refine wl_alloc2 ?_; intro v9a v9b c7 n00 n10 hb hbB; refine Hid.out ?_)
 have c5 := hb.size
 replace g0 := g0.kept hb
 replace g1 := g1.kept hb
 replace g2 := g2.kept hb
 replace gP := gP.kept hb
 replace ge := ge.kept hb
 replace gr := gr.kept hb
 replace g := g.kept hb
 replace hE := hE.kept hb
 replace hB := hB.trans (hb.mono hB.size)
 clear hb
 have c1 := g.lt
 have c6 := hB.size
 replace g0 := g0.kept hbB
 replace g1 := g1.kept hbB
 replace g2 := g2.kept hbB
 replace gP := gP.kept hbB
 replace ge := ge.kept hbB
 replace gr := gr.kept hbB
 replace g := g.kept hbB
 replace hE := hE.kept hbB
 replace hB := hB.trans (hbB.mono hB.size)
 clear hbB
 refine Hid.mk ?_
 go_wp2_with (refine st_arr isArr32 n00 (by rfl) (by rfl) ?_; intro v9c n0 o6; refine Hid.out ?_)
 replace n10 := n10.only o6 (by omega)
 replace g0 := g0.only o6 (by omega)
 replace g1 := g1.only o6 (by omega)
 replace g2 := g2.only o6 (by omega)
 replace gP := gP.only o6 (by omega)
 replace ge := ge.only o6 (by omega)
 replace gr := gr.only o6 (by omega)
 replace g := g.only o6 (by omega)
 replace hE := hE.only o6 (by omega)
 replace hB := hB.trans (o6.below (by omega))
 clear o6
 clear n00
 refine Hid.mk ?_
 go_wp2_with (refine st_arr isArr32 n10 (by rfl) (by rfl) ?_; intro v9d n1 o6; refine Hid.out ?_)
 replace n0 := n0.only o6 (by omega)
 replace g0 := g0.only o6 (by omega)
 replace g1 := g1.only o6 (by omega)
 replace g2 := g2.only o6 (by omega)
 replace gP := gP.only o6 (by omega)
 replace ge := ge.only o6 (by omega)
 replace gr := gr.only o6 (by omega)
 replace g := g.only o6 (by omega)
 replace hE := hE.only o6 (by omega)
 replace hB := hB.trans (o6.below (by omega))
 clear o6
 clear n10
 refine Hid.mk ?_
 
 go_wp2_with fail
 have lzg0 := g0.lt
 have lzg1 := g1.lt
 have lzg2 := g2.lt
 have lzgP := gP.lt
 have lzge := ge.lt
 have lzgr := gr.lt
 have lzg := g.lt
 have lzB := hB.size
 have lzE := hE.two
 
 have HR : Hid (∀ u, Touch (fun x => x = (w.heap.size + 1 + 1 + 1)) v9d u → SAt u br 129 35 (resV ix f (pubF E) Z)) := Hid.mk (fun u hu => gr.tou hu (by omega))
 have HN0 : Hid (∀ u, Touch (fun x => x = (w.heap.size + 1 + 1 + 1)) v9d u → ArrAt u v9.heap.size .u8 22 32 (N 0)) := Hid.mk (fun u hu => n0.tou hu (by omega))
 have HN1 : Hid (∀ u, Touch (fun x => x = (w.heap.size + 1 + 1 + 1)) v9d u → ArrAt u v9a.heap.size .u8 22 32 (N 1)) := Hid.mk (fun u hu => n1.tou hu (by omega))
 have HG0 : Hid (∀ u, Touch (fun x => x = (w.heap.size + 1 + 1 + 1)) v9d u → SAt u w.heap.size 31 162 (hanV H C O R P l f)) := Hid.mk (fun u hu => g0.tou hu (by omega))
 have HTX := Hid.mk (res_text ix f (pubF E) Z (pubF_b E 32) (by omega))
 refine wp_region3 (Touch (fun x => x = (w.heap.size + 1 + 1 + 1)) v9d) v9d.heap.size
   [((w.heap.size + 1 + 1 + 1), once (SC 66 paiZ) 41 9 (SC 66 (paiV (N 1) (N 0) ix f)))]
   [kv (.agg (SC 35 (resV ix f (pubF E) Z))), kv (.string (⟨#[2, 0, 0, 0]⟩ ++ fourT ix ++ fourT f ++ mkS 32 (pubF E) ++ Z)), kv (.agg (WA .u8 32 (N 1))), kv (.agg (WA .u8 32 (N 0))), kv (.int .u32 ix), kv (.pointer (some ⟨w.heap.size, 161, none⟩)), kv (.int .u32 f), kv (.agg (SC 66 (paiV (N 1) (N 0) ix f))), kv (.string (⟨#[2, 0, 0, 0]⟩ ++ fourT ix ++ fourT f ++ mkS 32 (pubF E) ++ Z)), .val fun _ => True]
   [.none, .none, .none, .none, .none, .none, .none, .none, .none, .base 0 1]
   [some 49, some 50, some 51, some 52, some 53, some 54, some 55, some 56, some 8, none]
   [(12, .pointer (some ⟨br, 0, none⟩)), (14, .pointer (some ⟨v9a.heap.size, 0, none⟩)), (13, .pointer (some ⟨v9.heap.size, 0, none⟩)), (3, .int .u32 ix), (4, .pointer (some ⟨w.heap.size, 0, none⟩)), (9, .pointer (some ⟨(w.heap.size + 1 + 1 + 1), 0, none⟩))]
   [[], [.slot 0], [], [], [], [], [.slot 5], [.slot 2, .slot 3, .slot 4, .slot 6], [.slot 1], [.slot 7, .base 0 0]]
   [.base 0 1, .slot 8] [49, 50, 51, 52, 53, 54, 55, 56, 8]
   rfl (by kernel_rfl) ⟨rfl, rfl, rfl, rfl, rfl, rfl, trivial⟩ (belT (w.heap.size + 1 + 1 + 1) (Below.refl _ v9d).drew) (Nat.le_refl _) ⟨⟨gP.lt, obIn gP⟩, trivial⟩ ⟨trivial, trivial⟩ touch_G
   ⟨
    (fun Q aq ww own hS hBg fr kn => .inl ⟨trivial, fun K hK => wp_value (look_st rfl is_res (HR.out ww hS) fr.1) (hK _ _ ⟨Touch.refl _ _, rfl⟩)⟩),
    (fun Q aq ww own hS hBg fr kn => .inl ⟨trivial, fun K hK => stepc enterResT rfl (args1 kn.1) (HTX.out ww) (fun w' hb => hK _ _ ⟨touch_below hb, rfl⟩)⟩),
    (fun Q aq ww own hS hBg fr kn => .inl ⟨trivial, fun K hK => wp_value (look_arr rfl isArr32 (HN1.out ww hS) fr.2.1) (hK _ _ ⟨Touch.refl _ _, rfl⟩)⟩),
    (fun Q aq ww own hS hBg fr kn => .inl ⟨trivial, fun K hK => wp_value (look_arr rfl isArr32 (HN0.out ww hS) fr.2.2.1) (hK _ _ ⟨Touch.refl _ _, rfl⟩)⟩),
    (fun Q aq ww own hS hBg fr kn => .inl ⟨trivial, fun K hK => wp_value (exec_move rfl fr.2.2.2.1) (hK _ _ ⟨Touch.refl _ _, rfl⟩)⟩),
    (fun Q aq ww own hS hBg fr kn => .inl ⟨trivial, fun K hK => wp_value (exec_fh6 rfl fr.2.2.2.2.1) (hK _ _ ⟨Touch.refl _ _, rfl⟩)⟩),
    (fun Q aq ww own hS hBg fr kn => .inl ⟨trivial, fun K hK => wp_value (exec_ld rfl kn.1 (run_load32 (han_f (HG0.out ww hS)))) (hK _ _ ⟨Touch.refl _ _, rfl⟩)⟩),
    (fun Q aq ww own hS hBg fr kn => .inl ⟨trivial, fun K hK => wp_value (exec_pai rfl kn.1 kn.2.1 kn.2.2.1 kn.2.2.2.1) (hK _ _ ⟨Touch.refl _ _, rfl⟩)⟩),
    (fun Q aq ww own hS hBg fr kn => .inl ⟨trivial, fun K hK => wp_value (exec_assign rfl kn.1) (hK _ _ ⟨Touch.refl _ _, rfl⟩)⟩),
    (fun Q aq ww own hS hBg fr kn => .inl ⟨trivial, fun K hK => act_st7 rfl isPair (paiV_one _ _ _ _) fr.2.2.2.2.2.1 kn.1 (obAt kn.2.1) (fun w2 hg ho => hK _ _ ⟨⟨touch_only ho, obIn hg⟩, trivial⟩)⟩),
    trivial⟩ ?_
 intro vs own v10 hT1 hsz kn inj
 clear inj hsz
 have q0 : SAt v10 (w.heap.size + 1 + 1 + 1) 41 66 (paiV (N 1) (N 0) ix f) := obAt kn.1
 have e8 : vs 8 = _ := kn.2.1
 clear kn HR HN0 HN1 HG0 HTX
 replace hB := belowT hB hT1 (by omega) (Nat.le_refl _)
 simp only [putAll, Act.put, List.setIfInBounds_toArray, List.set_cons_zero, List.set_cons_succ, e8]
 go_wp2_with fail
 refine bodyPost_ret (v := .tuple #[.string (⟨#[2, 0, 0, 0]⟩ ++ fourT ix ++ fourT f ++ mkS 32 (pubF E) ++ Z), .agg (SC 66 (paiV (N 1) (N 0) ix f))]) (res_tc Tryz.results51 isPair q0 (by rfl) (by rfl)) rfl ⟨?_, hB⟩
 unfold answerE
 rw [if_pos ⟨hz1, hz2⟩]
 have hbl : bthL C et (shF E R) (shF E P) S = L := by simp only [bthL, hC1e, hC2e, hC3e, hLe]
 have hbh : bthH H C et (shF E R) (shF E P) S = H2 := by simp only [bthH, hbl, hH1e, hH2e]
 have hN2 : chK (macF (mkS 32 (L 0)) ⟨#[]⟩) = N := hNe
 simp only [ansM, anB, anL, anH, anN, hete, hbl, hbh, hZ, hN2]
def finishE (O H C A S : Nat → Int) (l : Int) (m : ByteArray) : Ending := if ¬ (m.size = 92 ∧ numA m 0 4 = 2) then gup (if m.size = 92 then 11 else 10) else if ¬ numA m 8 4 = l then gup 15 else
 if ¬ (shZ A (fiE m) = true ∧ shZ O (fiE m) = true) then gup 18 else if ¬ (fiT H C A O S m).2 = 0 then gup 13 else .returned (.agg (SC 66 (paiV (fiN C A O S m 0) (fiN C A O S m 1) l (numA m 4 4))))
set_option linter.unusedVariables false in
set_option maxHeartbeats 4000000 in
set_option maxRecDepth 100000 in
theorem finish_run (O H C A R P S : Nat → Int) (l f : Int) (m : ByteArray) (w : World) (hE : Env w) (hO : Byts 32 O) (hH : Byts 32 H) (hC : Byts 32 C) (hA : Byts 32 A) (hS : Byts 32 S) :
  Calls Tryz.prog 55 #[.agg (WA .u8 32 O), .agg (SC 162 (hanV H C A R P l f)), .agg (WA .u8 32 S), .string m] w fun e w' => e = finishE O H C A S l m ∧ Below w.heap.size w w' := by
 have g0 : ArrAt ((((w.alloc (.cells (WA .u8 32 O) 22)).alloc (.cells (SC 162 (hanV H C A R P l f)) 31)).alloc (.cells (WA .u8 32 S) 22)).alloc (.cells Tryz.zeroCells41 41)) w.heap.size .u8 22 32 O := ArrAt.kept (heap_a31 w _ _ _) ((Below.refl _ _).alloc (Nat.le_refl _) _)
 have g1 : SAt ((((w.alloc (.cells (WA .u8 32 O) 22)).alloc (.cells (SC 162 (hanV H C A R P l f)) 31)).alloc (.cells (WA .u8 32 S) 22)).alloc (.cells Tryz.zeroCells41 41)) (w.heap.size + 1) 31 162 (hanV H C A R P l f) := SAt.kept (heap_a32 w _ _ _) ((Below.refl _ _).alloc (Nat.le_refl _) _)
 have g2 : ArrAt ((((w.alloc (.cells (WA .u8 32 O) 22)).alloc (.cells (SC 162 (hanV H C A R P l f)) 31)).alloc (.cells (WA .u8 32 S) 22)).alloc (.cells Tryz.zeroCells41 41)) (w.heap.size + 1 + 1) .u8 22 32 S := ArrAt.kept (heap_a3 w _ _ _) ((Below.refl _ _).alloc (Nat.le_refl _) _)
 have gP : SAt ((((w.alloc (.cells (WA .u8 32 O) 22)).alloc (.cells (SC 162 (hanV H C A R P l f)) 31)).alloc (.cells (WA .u8 32 S) 22)).alloc (.cells Tryz.zeroCells41 41)) (w.heap.size + 1 + 1 + 1) 41 66 paiZ := by
  have h := heap_a4 w (.cells (WA .u8 32 O) 22) (.cells (SC 162 (hanV H C A R P l f)) 31) (.cells (WA .u8 32 S) 22) (.cells Tryz.zeroCells41 41)
  unfold SAt
  rw [← zeroPair]
  exact h
 have hB : Below w.heap.size w ((((w.alloc (.cells (WA .u8 32 O) 22)).alloc (.cells (SC 162 (hanV H C A R P l f)) 31)).alloc (.cells (WA .u8 32 S) 22)).alloc (.cells Tryz.zeroCells41 41)) := ((((Below.refl _ w).alloc (by simp) _).alloc (by simp) _).alloc (by simp; omega) _).alloc (by simp; omega) _
 replace hE := hE.kept hB
 have hmf : ∀ (fn : Fn) (first cap : Array Value) (w : World), (Instr.makeFunc fn first cap).run Tryz.prog w = .ok (.func fn first cap) w := fun _ _ _ _ => rfl
 go_enter Tryz.func55, Tryz.ntmps55
 go_wp2_with fail
 by_cases hf : m.size = 92 ∧ numA m 0 4 = 2
 case neg =>
  refine (resOf_no m _ hf).mono ?_
  rintro x v1 ⟨rfl, hb⟩
  exact ⟨rfl, (by unfold finishE; rw [if_pos hf] : finishE O H C A S l m = gup (if m.size = 92 then 11 else 10)).symm, hB.trans (hb.mono hB.size)⟩
 have hms := hf.1
 refine (resOf_ok m _ hf.1 hf.2).mono ?_
 rintro x v1 ⟨rfl, hb⟩
 replace g0 := g0.kept hb
 replace g1 := g1.kept hb
 replace g2 := g2.kept hb
 replace gP := gP.kept hb
 replace hE := hE.kept hb
 replace hB := hB.trans (hb.mono hB.size)
 clear hb
 
 have hes : (m.extract 12 44).size = 32 := by rw [ByteArray.size_extract]; omega
 have hbs : (m.extract 44 60).size = 16 := by rw [ByteArray.size_extract]; omega
 obtain ⟨E, hEe⟩ : ∃ X, txt (m.extract 12 44) = X := ⟨_, rfl⟩
 have hEb : Byts 32 E := fun j _ => hEe ▸ txt_b _ j
 have hem : mkS 32 E = m.extract 12 44 := by rw [← hEe, ← hes]; exact mkS_txt _
 obtain ⟨box, hbx⟩ : ∃ X, m.extract 44 60 = X := ⟨_, rfl⟩
 obtain ⟨n4, hn4⟩ : ∃ X, numA m 4 4 = X := ⟨_, rfl⟩
 obtain ⟨n8, hn8⟩ : ∃ X, numA m 8 4 = X := ⟨_, rfl⟩
 rw [hEe, hbx, hn4, hn8]
 rw [hbx] at hbs
 have lag0 := g0.lt
 have lag1 := g1.lt
 have lag2 := g2.lt
 have lagP := gP.lt
 have laB := hB.size
 have laE := hE.two
 
 go_wp2_with (refine wl_allocR ?_; intro v2 gi0 hb; refine Hid.out ?_)
 replace g0 := g0.kept hb
 replace g1 := g1.kept hb
 replace g2 := g2.kept hb
 replace gP := gP.kept hb
 replace hE := hE.kept hb
 replace hB := hB.trans (hb.mono hB.size)
 clear hb
 
 refine Hid.mk ?_
 go_wp2_with (refine st_st is_res (resV_one _ _ _ _) gi0 (by rfl) (by rfl) ?_; intro v3 gi o6; refine Hid.out ?_)
 replace g0 := g0.only o6 (by omega)
 replace g1 := g1.only o6 (by omega)
 replace g2 := g2.only o6 (by omega)
 replace gP := gP.only o6 (by omega)
 replace hE := hE.only o6 (by omega)
 replace hB := hB.trans (o6.below (by omega))
 clear o6
 
 clear gi0
 refine Hid.mk ?_
 obtain ⟨bi, hbi⟩ : ∃ bi, v1.heap.size = bi := ⟨_, rfl⟩
 rw [hbi] at gi lag0 lag1 lag2 lagP laB laE ⊢
 clear hbi
 have hci : _ := gi.at 1 (by omega)
 replace hci : _ = some (Value.int .u32 n8) := hci
 have hcl := han_l g1
 by_cases h8 : n8 = l
 case neg =>
  have hd : (n8 == l) = false := by simpa using h8
  go_wp2_with fail
  refine (need_no 15 _).mono ?_
  rintro x v9 ⟨rfl, rfl⟩
  exact ⟨rfl, (by unfold finishE; rw [if_neg (not_not_intro hf), if_pos (fun h => h8 (by rw [← hn8]; exact h))] : finishE O H C A S l m = gup 15).symm, hB⟩
 have hd : (n8 == l) = true := by simpa using h8
 go_wp2_with fail
 refine (need_ok 15 _).mono ?_
 rintro x v4 ⟨rfl, rfl⟩
 clear hci hcl hd
 rw [← hn8] at h8
 have lbg0 := g0.lt
 have lbg1 := g1.lt
 have lbg2 := g2.lt
 have lbgP := gP.lt
 have lbgi := gi.lt
 have lbB := hB.size
 have lbE := hE.two
 
 go_wp2_with (refine wl_value rfl (look_st rfl isHand g1 (by rfl)) ?_)
 refine (goingOn_run H C A R P l f _).mono ?_
 rintro x v5 ⟨b, hbb, rfl, g, hb⟩
 have hb3 : 3 ≤ b := by omega
 have hbS : w.heap.size ≤ b := by omega
 replace g0 := g0.kept hb
 replace g1 := g1.kept hb
 replace g2 := g2.kept hb
 replace gP := gP.kept hb
 replace gi := gi.kept hb
 replace hE := hE.kept hb
 replace hB := hB.trans (hb.mono hB.size)
 clear hb
 
 have hre := res_e gi
 go_wp2_with (refine wl_value rfl (exec_ldmid rfl isArr32 (by rfl) hre) ?_)
 refine (ephemeralIn_run b H C _ E _ hE hb3 g hH hC hEb).mono ?_
 rintro x v6 ⟨rfl, g', t1⟩
 replace g0 := g0.tou t1 (by omega)
 replace g1 := g1.tou t1 (by omega)
 replace g2 := g2.tou t1 (by omega)
 replace gP := gP.tou t1 (by omega)
 replace gi := gi.tou t1 (by omega)
 replace hE := hE.touch t1 hb3
 replace hB := belowT hB t1 hbS (Nat.le_refl _)
 clear t1
 clear g hre
 have g := g'
 clear g'
 obtain ⟨et, hete⟩ : ∃ X, m.extract 12 44 = X := ⟨_, rfl⟩
 rw [hem, hete] at g
 obtain ⟨H1, hH1e⟩ : ∃ X, mixH H et = X := ⟨_, rfl⟩
 have hH1 : Byts 32 H1 := hH1e ▸ mixH_b _ _ 32
 obtain ⟨C1, hC1e⟩ : ∃ X, chn C et 0 = X := ⟨_, rfl⟩
 have hC1 : Byts 32 C1 := hC1e ▸ chn_b _ _ 0 32
 rw [hH1e, hC1e] at g
 have hre := res_e gi
 have hr := han_o g1
 go_wp2_with (first | (refine wl_value rfl (exec_ldmid rfl isArr32 (by rfl) hre) ?_) | (refine wl_value rfl (exec_ldmid rfl isArr32 (by rfl) hr) ?_))
 by_cases hz1 : shZ A E = true
 case neg =>
  refine (secret_no _ A E _ hE hA hEb (by simpa using hz1)).mono ?_
  rintro x v9 ⟨rfl, hb⟩
  exact ⟨rfl, (by unfold finishE; rw [if_neg (not_not_intro hf), if_neg (not_not_intro h8), if_pos (fun h => hz1 (by rw [← hEe]; exact h.1))] : finishE O H C A S l m = gup 18).symm, hB.trans (hb.mono hB.size)⟩
 refine (secretChain_run b H1 C1 _ A E _ hE g hC1 hA hEb hz1).mono ?_
 rintro x v7 ⟨rfl, g', t1⟩
 replace g0 := g0.tou t1 (by omega)
 replace g1 := g1.tou t1 (by omega)
 replace g2 := g2.tou t1 (by omega)
 replace gP := gP.tou t1 (by omega)
 replace gi := gi.tou t1 (by omega)
 replace hE := hE.touch t1 hb3
 replace hB := belowT hB t1 hbS (Nat.le_refl _)
 clear t1
 clear g hr hre
 have g := g'
 clear g'
 obtain ⟨C2, hC2e⟩ : ∃ X, chn C1 (mkS 32 (shF A E)) 0 = X := ⟨_, rfl⟩
 have hC2 : Byts 32 C2 := hC2e ▸ chn_b _ _ 0 32
 rw [hC2e] at g
 have hre := res_e gi
 go_wp2_with (first | (refine ld_arr isArr32 g0 (by rfl) ?_) | (refine wl_value rfl (exec_ldmid rfl isArr32 (by rfl) hre) ?_))
 by_cases hz2 : shZ O E = true
 case neg =>
  refine (secret_no _ O E _ hE hO hEb (by simpa using hz2)).mono ?_
  rintro x v9 ⟨rfl, hb⟩
  exact ⟨rfl, (by unfold finishE; rw [if_neg (not_not_intro hf), if_neg (not_not_intro h8), if_pos (fun h => hz2 (by rw [← hEe]; exact h.2))] : finishE O H C A S l m = gup 18).symm, hB.trans (hb.mono hB.size)⟩
 refine (secretChain_run b H1 C2 _ O E _ hE g hC2 hO hEb hz2).mono ?_
 rintro x v8 ⟨rfl, g', t1⟩
 replace g0 := g0.tou t1 (by omega)
 replace g1 := g1.tou t1 (by omega)
 replace g2 := g2.tou t1 (by omega)
 replace gP := gP.tou t1 (by omega)
 replace gi := gi.tou t1 (by omega)
 replace hE := hE.touch t1 hb3
 replace hB := belowT hB t1 hbS (Nat.le_refl _)
 clear t1
 clear g hre
 have g := g'
 clear g'
 obtain ⟨C3, hC3e⟩ : ∃ X, chn C2 (mkS 32 (shF O E)) 0 = X := ⟨_, rfl⟩
 have hC3 : Byts 32 C3 := hC3e ▸ chn_b _ _ 0 32
 rw [hC3e] at g
 go_wp2_with (refine ld_arr isArr32 g2 (by rfl) ?_)
 refine (shareIn_run b H1 C3 _ S _ hE hb3 g hH1 hC3 hS).mono ?_
 rintro x v9 ⟨rfl, g', t1⟩
 replace g0 := g0.tou t1 (by omega)
 replace g1 := g1.tou t1 (by omega)
 replace g2 := g2.tou t1 (by omega)
 replace gP := gP.tou t1 (by omega)
 replace gi := gi.tou t1 (by omega)
 replace hE := hE.touch t1 hb3
 replace hB := belowT hB t1 hbS (Nat.le_refl _)
 clear t1
 clear g
 have g := g'
 clear g'
 obtain ⟨L, hLe⟩ : ∃ X, chn C3 (mkS 32 S) = X := ⟨_, rfl⟩
 have hL : ∀ i, Byts 32 (L i) := fun i => hLe ▸ chn_b _ _ i 32
 rw [hLe] at g
 obtain ⟨H2, hH2e⟩ : ∃ X, mixH H1 (mkS 32 (L 1)) = X := ⟨_, rfl⟩
 have hH2 : Byts 32 H2 := hH2e ▸ mixH_b _ _ 32
 rw [hH2e] at g
 have hcl : _ := gi.at 34 (by omega)
 replace hcl : _ = some (Value.string box) := hcl
 go_wp2_with fail
 have hE2 : txt et = E := by rw [← hete]; exact hEe
 have hbl : fiL C A O S m = L := by simp only [fiL, fiE, hE2, hete, bthL, hC1e, hC2e, hC3e, hLe]
 have hbh : fiH H C A O S m = H2 := by
  have hb2 : bthL C et (shF A E) (shF O E) S = L := by simp only [bthL, hC1e, hC2e, hC3e, hLe]
  simp only [fiH, fiE, hE2, hete, bthH, hb2, hH1e, hH2e]
 have hTe : openT (L 2) non0 box (mkS 32 H2) = fiT H C A O S m := by simp only [fiT, hbl, hbh, hbx]
 have hzz : shZ A (fiE m) = true ∧ shZ O (fiE m) = true := by
  have : fiE m = E := hEe
  rw [this]
  exact ⟨hz1, hz2⟩
 by_cases hz : (openT (L 2) non0 box (mkS 32 H2)).2 = 0
 case neg =>
  refine (open_no b H2 (L 0) (L 2) box _ hE hb3 g hH2 (hL 2) (by omega) hz).mono ?_
  rintro x v10 ⟨rfl, t1⟩
  exact ⟨rfl, (by unfold finishE; rw [if_neg (not_not_intro hf), if_neg (not_not_intro h8), if_neg (not_not_intro hzz), if_pos (by rw [← hTe]; exact hz)] : finishE O H C A S l m = gup 13).symm, belowT hB t1 hbS (Nat.le_refl _)⟩
 refine (open_ok b H2 (L 0) (L 2) box _ hE hb3 g hH2 (hL 2) (by omega) hz).mono ?_
 rintro x v10 ⟨rfl, g', t1⟩
 replace g0 := g0.tou t1 (by omega)
 replace g1 := g1.tou t1 (by omega)
 replace g2 := g2.tou t1 (by omega)
 replace gP := gP.tou t1 (by omega)
 replace gi := gi.tou t1 (by omega)
 replace hE := hE.touch t1 hb3
 replace hB := belowT hB t1 hbS (Nat.le_refl _)
 clear t1
 clear g hcl
 have g := g'
 clear g'
 go_wp2_with fail
 refine (ends_run b _ (L 0) _ _ hE g (hL 0)).mono ?_
 rintro x v11 ⟨rfl, hb⟩
 replace g0 := g0.kept hb
 replace g1 := g1.kept hb
 replace g2 := g2.kept hb
 replace gP := gP.kept hb
 replace gi := gi.kept hb
 replace g := g.kept hb
 replace hE := hE.kept hb
 replace hB := hB.trans (hb.mono hB.size)
 clear hb
 obtain ⟨N, hNe⟩ : ∃ X, chn (L 0) ⟨#[]⟩ = X := ⟨_, rfl⟩
 rw [hNe]
 have lcg0 := g0.lt
 have lcg1 := g1.lt
 have lcg2 := g2.lt
 have lcgP := gP.lt
 have lcgi := gi.lt
 have lcg := g.lt
 have lcB := hB.size
 have lcE := hE.two
 go_wp2_with (refine wl_alloc2 ?_; intro v11a v11b c7 n00 n10 hb hbB; refine Hid.out ?_)
 have c5 := hb.size
 replace g0 := g0.kept hb
 replace g1 := g1.kept hb
 replace g2 := g2.kept hb
 replace gP := gP.kept hb
 replace gi := gi.kept hb
 replace g := g.kept hb
 replace hE := hE.kept hb
 replace hB := hB.trans (hb.mono hB.size)
 clear hb
 have c1 := g.lt
 have c6 := hB.size
 replace g0 := g0.kept hbB
 replace g1 := g1.kept hbB
 replace g2 := g2.kept hbB
 replace gP := gP.kept hbB
 replace gi := gi.kept hbB
 replace g := g.kept hbB
 replace hE := hE.kept hbB
 replace hB := hB.trans (hbB.mono hB.size)
 clear hbB
 refine Hid.mk ?_
 go_wp2_with (refine st_arr isArr32 n00 (by rfl) (by rfl) ?_; intro v11c n0 o6; refine Hid.out ?_)
 replace n10 := n10.only o6 (by omega)
 replace g0 := g0.only o6 (by omega)
 replace g1 := g1.only o6 (by omega)
 replace g2 := g2.only o6 (by omega)
 replace gP := gP.only o6 (by omega)
 replace gi := gi.only o6 (by omega)
 replace g := g.only o6 (by omega)
 replace hE := hE.only o6 (by omega)
 replace hB := hB.trans (o6.below (by omega))
 clear o6
 clear n00
 refine Hid.mk ?_
 go_wp2_with (refine st_arr isArr32 n10 (by rfl) (by rfl) ?_; intro v11d n1 o6; refine Hid.out ?_)
 replace n0 := n0.only o6 (by omega)
 replace g0 := g0.only o6 (by omega)
 replace g1 := g1.only o6 (by omega)
 replace g2 := g2.only o6 (by omega)
 replace gP := gP.only o6 (by omega)
 replace gi := gi.only o6 (by omega)
 replace g := g.only o6 (by omega)
 replace hE := hE.only o6 (by omega)
 replace hB := hB.trans (o6.below (by omega))
 clear o6
 clear n10
 refine Hid.mk ?_
 have hcl := han_l g1
 have hci : _ := gi.at 0 (by omega)
 replace hci : _ = some (Value.int .u32 n4) := hci
 have lzg0 := g0.lt
 have lzg1 := g1.lt
 have lzg2 := g2.lt
 have lzgP := gP.lt
 have lzgi := gi.lt
 have lzg := g.lt
 have lzB := hB.size
 have lzE := hE.two
 go_wp2_with (first | (refine ld_arr isArr32 n0 (by rfl) ?_) | (refine ld_arr isArr32 n1 (by rfl) ?_) | (refine wl_value rfl (exec_pai rfl (by rfl) (by rfl) (by rfl) (by rfl)) ?_) | (refine st_st isPair (paiV_one _ _ _ _) gP (by rfl) (by rfl) ?_; intro v12 q0 o9; refine Hid.out ?_))
 refine Hid.mk ?_
 go_wp2_with fail
 refine bodyPost_ret (res_c1 Tryz.results55 isPair q0 (by rfl)) rfl ⟨?_, hB.trans (o9.below (by omega))⟩
 unfold finishE
 rw [if_neg (not_not_intro hf), if_neg (not_not_intro h8), if_neg (not_not_intro hzz), if_neg (not_not_intro (by rw [← hTe]; exact hz))]
 have hN2 : fiN C A O S m = N := by
  unfold fiN
  rw [hbl]
  exact hNe
 rw [hN2, hn4]
 
end Go.Proofs.YthghcjepdhkfdaaGreatDoor

/-
  Own text. What was laid is told, and a cookie that was hidden is found: the numbers.
-/
namespace Go.Proofs.YthghcjepdhkfdaaGreatDoor
open Go.RowKit Go.Proofs
set_option maxRecDepth 100000
def sndT (m : ByteArray) (to : Nat → Int) (c : ByteArray) : ByteArray := if c.size = 0 then mkS 16 (fun _ => 0) else (keyedT 16 c (m ++ mrkT m to)).1
theorem marksT_eq (m : ByteArray) (to : Nat → Int) (c : ByteArray) : marksT m to c = m ++ mrkT m to ++ sndT m to c := rfl
theorem sndT_size (m : ByteArray) (to : Nat → Int) (c : ByteArray) (hc : c.size = 0 ∨ c.size = 16) : (sndT m to c).size = 16 := by
 unfold sndT
 by_cases h : c.size = 0
 ·rw [if_pos h, mkS_size]
 ·rw [if_neg h]
  exact keyed_size _ _ (by omega)
theorem marksT_size (m : ByteArray) (to : Nat → Int) (c : ByteArray) (hc : c.size = 0 ∨ c.size = 16) : (marksT m to c).size = m.size + 32 := by
 rw [marksT_eq, ByteArray.size_append, ByteArray.size_append, mrkT_size, sndT_size m to c hc]
section
variable (m : ByteArray) (to : Nat → Int) (c : ByteArray) (hc : c.size = 0 ∨ c.size = 16)
include hc
theorem marks_first : (marksT m to c).extract ((marksT m to c).size - 32) ((marksT m to c).size - 32 + 16) = mrkT m to := by
 rw [marksT_size m to c hc, marksT_eq, ByteArray.append_assoc]
 exact ext_at (by omega) (by rw [mrkT_size])
theorem marks_whole (hm : m.size = 116 ∨ m.size = 60) : isWhole (marksT m to c) = true := by
 unfold isWhole
 rw [marksT_size m to c hc]
 exact decide_eq_true (by omega)
theorem marks_marked (hm : m.size = 116 ∨ m.size = 60) : MarkedR (marksT m to c) to = true := by
 unfold MarkedR
 rw [marks_whole m to c hc hm, marks_first m to c hc, Bool.true_and]
 refine decide_eq_true ?_
 rw [marksT_size m to c hc, Nat.add_sub_cancel, marksT_eq, ByteArray.append_assoc]
 rw [ByteArray.extract_append_eq_left rfl]
end
end Go.Proofs.YthghcjepdhkfdaaGreatDoor

/-
  Own text. Package noise: marks.
-/
namespace Go.Proofs.YthghcjepdhkfdaaGreatDoor
open Go.RowKit Go.Proofs
set_option maxRecDepth 100000
theorem exec_eqSF {a : Act} {o : Oper} {w : World} {x y : Operand} (ho : o.op = .binOp .eql 9 x y 9) {s t : ByteArray} (hx : a.eval x = .string s) (hy : a.eval y = .string t) (h : ¬ s = t) : (execOp a.eval o).run Tryz.prog w = .ok (.value (.bool false)) w :=
 exec_bin2 ho hx hy rfl (by
  have : (s.toList == t.toList) = false := by
   rw [Lib.toList_data, Lib.toList_data]
   exact beq_false_of_ne (fun e => h (ByteArray.ext (by simpa using e)))
  simp [go_sem, this])
set_option maxHeartbeats 800000 in
theorem hasMarks_run (m : ByteArray) (w : World) : Calls Tryz.prog 61 #[.string m] w fun e w' => e = .returned (.bool (isWhole m)) ∧ Below w.heap.size w w' := by
 have HW : Hid (isWhole m = decide (m.size = 148 ∨ m.size = 92)) := Hid.mk rfl
 generalize isWhole m = z at *
 by_cases h1 : m.size = 148
 ·have e : z = true := by rw [HW.out]; simp [h1]
  subst e
  go_enter Tryz.func61, Tryz.ntmps61
  go_wp2_with fail
  go_ret
  exact ⟨rfl, (Below.refl _ _)⟩
 ·by_cases h2 : m.size = 92
  ·have e : z = true := by rw [HW.out]; simp [h2]
   subst e
   go_enter Tryz.func61, Tryz.ntmps61
   go_wp2_with fail
   go_ret
   exact ⟨rfl, (Below.refl _ _)⟩
  ·have e : z = false := by rw [HW.out]; simp [h1, h2]
   subst e
   have e1 : ((m.size : Int) == 148) = false := beq_false_of_ne (by omega)
   have e2 : ((m.size : Int) == 92) = false := beq_false_of_ne (by omega)
   go_enter Tryz.func61, Tryz.ntmps61
   go_wp2_with fail
   go_ret
   exact ⟨by first | rfl | (show Ending.returned (.bool (((m.size : Int) == 148) || ((m.size : Int) == 92))) = _; rw [e1, e2]; rfl), Below.refl _ _⟩
theorem res_ttt {fn : Func} {p q r : Tmp} (h : fn.results = #[.tmp p, .tmp q, .tmp r]) {tmps : Array Value} {w : World} {x y z : Value} (hp : tmps.getD p undef = x) (hq : tmps.getD q undef = y) (hr : tmps.getD r undef = z) : (results fn tmps).run Tryz.prog w = .ok (.tuple #[x, y, z]) w := by
 have hp' : tmps[p]?.getD undef = x := by simpa using hp
 have hq' : tmps[q]?.getD undef = y := by simpa using hq
 have hr' : tmps[r]?.getD undef = z := by simpa using hr
 simp [results, h, hp', hq', hr']
set_option maxHeartbeats 1600000 in
set_option maxRecDepth 100000 in
theorem apart_run (m : ByteArray) (n : Nat) (w : World) (hn : m.size = n + 32) (hs : n ≤ 1000) : Calls Tryz.prog 62 #[.string m] w fun e w' => e = .returned (.tuple #[.string (m.extract 0 n), .string (m.extract n (n + 16)), .string (m.extract (n + 16) m.size)]) ∧ Below w.heap.size w w' := by
 have hI : (m.size : Int) - 32 = (n : Int) := by omega
 have hb : (m.size : Int) ≤ 2000 := by omega
 have HN := Hid.mk hs
 have HS1 := Hid.mk (fun u => strH m n u (by omega))
 have HS2 := Hid.mk (fun u => strB m n (n + 16) u (by omega) (by omega))
 have HS3 := Hid.mk (fun u => strL m (n + 16) u (by omega))
 clear hn
 go_enter Tryz.func62, Tryz.ntmps62
 go_wp2_with fail
 refine wp_region3 (Below w.heap.size w) w.heap.size
   ([] : List (Nat × Cont))
   [kv (.string m), kv (.int .i64 (n : Int)), kv (.string (m.extract 0 n)), kv (.string m), kv (.int .i64 (n : Int)), kv (.int .i64 (n : Int)), kv (.int .i64 ((n : Int) + 16)), kv (.string (m.extract n (n + 16))), kv (.string m), kv (.int .i64 (n : Int)), kv (.int .i64 ((n : Int) + 16)), kv (.string (m.extract (n + 16) m.size)), kv (.string (m.extract 0 n)), kv (.string (m.extract n (n + 16))), kv (.string (m.extract (n + 16) m.size))]
   [.none, .none, .none, .none, .none, .none, .none, .none, .none, .none, .none, .none, .none, .none, .none]
   [some 9, some 10, some 11, some 12, some 13, some 14, some 15, some 16, some 17, some 18, some 19, some 20, some 2, some 3, some 4]
   [(0, .string m), (5, .int .i64 (n : Int))]
   [[], [], [.slot 0, .slot 1], [], [], [], [.slot 5], [.slot 3, .slot 4, .slot 6], [], [], [.slot 9], [.slot 8, .slot 10], [.slot 2], [.slot 7], [.slot 11]]
   [.slot 12, .slot 13, .slot 14] [9, 10, 11, 12, 13, 14, 15, 16, 17, 18, 19, 20, 2, 3, 4]
   rfl (by kernel_rfl) ⟨rfl, rfl, trivial⟩ (Below.refl _ w).drew (Nat.le_refl _) trivial trivial (below_G (Nat.le_refl _) trivial)
   ⟨
    (fun Q aq ww own hS hBg fr kn => .inl ⟨trivial, fun K hK => wp_value (exec_move rfl fr.1) (hK _ _ ⟨Touch.refl _ _, rfl⟩)⟩),
    (fun Q aq ww own hS hBg fr kn => .inl ⟨trivial, fun K hK => wp_value (exec_move rfl fr.2.1) (hK _ _ ⟨Touch.refl _ _, rfl⟩)⟩),
    (fun Q aq ww own hS hBg fr kn => .inl ⟨trivial, fun K hK => wp_value (exec_slH rfl kn.1 kn.2.1 (HS1.out ww)) (hK _ _ ⟨Touch.refl _ _, rfl⟩)⟩),
    (fun Q aq ww own hS hBg fr kn => .inl ⟨trivial, fun K hK => wp_value (exec_move rfl fr.1) (hK _ _ ⟨Touch.refl _ _, rfl⟩)⟩),
    (fun Q aq ww own hS hBg fr kn => .inl ⟨trivial, fun K hK => wp_value (exec_move rfl fr.2.1) (hK _ _ ⟨Touch.refl _ _, rfl⟩)⟩),
    (fun Q aq ww own hS hBg fr kn => .inl ⟨trivial, fun K hK => wp_value (exec_move rfl fr.2.1) (hK _ _ ⟨Touch.refl _ _, rfl⟩)⟩),
    (fun Q aq ww own hS hBg fr kn => .inl ⟨trivial, fun K hK => wp_value (exec_add (n := 16) rfl kn.1 rfl (by have := HN.out; omega) (by have := HN.out; omega)) (hK _ _ ⟨Touch.refl _ _, rfl⟩)⟩),
    (fun Q aq ww own hS hBg fr kn => .inl ⟨trivial, fun K hK => wp_value (exec_slB rfl kn.1 kn.2.1 kn.2.2.1 (HS2.out ww)) (hK _ _ ⟨Touch.refl _ _, rfl⟩)⟩),
    (fun Q aq ww own hS hBg fr kn => .inl ⟨trivial, fun K hK => wp_value (exec_move rfl fr.1) (hK _ _ ⟨Touch.refl _ _, rfl⟩)⟩),
    (fun Q aq ww own hS hBg fr kn => .inl ⟨trivial, fun K hK => wp_value (exec_move rfl fr.2.1) (hK _ _ ⟨Touch.refl _ _, rfl⟩)⟩),
    (fun Q aq ww own hS hBg fr kn => .inl ⟨trivial, fun K hK => wp_value (exec_add (n := 16) rfl kn.1 rfl (by have := HN.out; omega) (by have := HN.out; omega)) (hK _ _ ⟨Touch.refl _ _, rfl⟩)⟩),
    (fun Q aq ww own hS hBg fr kn => .inl ⟨trivial, fun K hK => wp_value (exec_slL rfl kn.1 kn.2.1 (HS3.out ww)) (hK _ _ ⟨Touch.refl _ _, rfl⟩)⟩),
    (fun Q aq ww own hS hBg fr kn => .inl ⟨trivial, fun K hK => wp_value (exec_assign rfl kn.1) (hK _ _ ⟨Touch.refl _ _, rfl⟩)⟩),
    (fun Q aq ww own hS hBg fr kn => .inl ⟨trivial, fun K hK => wp_value (exec_assign rfl kn.1) (hK _ _ ⟨Touch.refl _ _, rfl⟩)⟩),
    (fun Q aq ww own hS hBg fr kn => .inl ⟨trivial, fun K hK => wp_value (exec_assign rfl kn.1) (hK _ _ ⟨Touch.refl _ _, rfl⟩)⟩),
    trivial⟩ ?_
 intro vs own v5 hB5 hs5 kn inj
 clear inj hs5
 have e2 : vs 2 = _ := kn.1
 have e3 : vs 3 = _ := kn.2.1
 have e4 : vs 4 = _ := kn.2.2.1
 clear kn
 simp only [putAll, Act.put, List.setIfInBounds_toArray, List.set_cons_zero, List.set_cons_succ, e2, e3, e4]
 go_wp2_with fail
 exact bodyPost_ret (res_ttt Tryz.results62 (by rfl) (by rfl) (by rfl)) rfl ⟨rfl, hB5⟩
set_option maxHeartbeats 800000 in
theorem markBy_run (key : ByteArray) (v : Value) (cnt : Nat) (ts : Nat → ByteArray) (w : World) (hE : Env w) (hv : Strs w v cnt ts) (hcn : cnt ≤ 1000) (hsz : (joinB ts cnt).size ≤ 562949953421312) :
  Calls Tryz.prog 67 #[.string key, v] w fun e w' => e = .returned (.string (keyedT 16 key (joinB ts cnt)).1) ∧ Below w.heap.size w w' := by
 have hK := Keyed_run 16 key v cnt ts w hE.1 hv (by omega) hsz
 generalize keyedT 16 key (joinB ts cnt) = Z at *
 go_enter Tryz.func67, Tryz.ntmps67
 go_wp2_with fail
 refine hK.mono ?_
 rintro x v1 ⟨rfl, hb⟩
 go_wp2_with fail
 go_ret
 exact ⟨rfl, hb⟩
set_option maxHeartbeats 1600000 in
theorem mac1_gen (m : ByteArray) (to K : Nat → Int) (w : World) (hE : Env w) (hto : Byts 32 to) (hm : m.size ≤ 562949953421312) (hK : Byts 32 K)
  (hS : ∀ u v, Tabs u → Strs u v 2 (two2 ⟨#[109, 97, 99, 49, 45, 45, 45, 45]⟩ (mkS 32 to)) → Calls Tryz.prog 107 #[v] u fun e w' => e = .returned (.agg (WA .u8 32 K)) ∧ Below u.heap.size u w') :
  Calls Tryz.prog 64 #[.string m, .agg (WA .u8 32 to)] w fun e w' => e = .returned (.string (keyedT 16 (mkS 32 K) m).1) ∧ Below w.heap.size w w' := by
 have hB : Below w.heap.size w (w.alloc (.cells (WA .u8 32 to) 22)) := (Below.refl _ w).alloc (Nat.le_refl _) _
 have g0 : ArrAt (w.alloc (.cells (WA .u8 32 to) 22)) w.heap.size .u8 22 32 to := heap_alloc_new w _
 have hcv := str_back 32 w.heap.size 32 _ 32 to g0.row hto rfl
 replace hE := hE.kept hB
 go_enter Tryz.func64, Tryz.ntmps64
 go_wp2_with (refine wl_bs2 (s := ⟨#[109, 97, 99, 49, 45, 45, 45, 45]⟩) (t := mkS 32 to) (by rfl) (by rfl) ?_; intro v1 hS1 hb1 hz1; refine Hid.out ?_)
 have e1 : ∀ o, (w.alloc o).heap.size = w.heap.size + 1 := fun o => by simp
 rw [e1] at hS1
 replace hE := hE.kept hb1
 replace hB := hB.trans (hb1.mono hB.size)
 clear hb1 hz1 e1 hcv g0
 refine Hid.mk ?_
 go_wp2_with fail
 refine (hS _ _ hE.1 hS1).mono ?_
 rintro x v2 ⟨rfl, hb2⟩
 replace hE := hE.kept hb2
 replace hB := hB.trans (hb2.mono hB.size)
 clear hb2 hS1 hS
 have hB2 := hB.size
 have hE2 := hE.two
 go_wp2_with (refine wl_alloc32 ?_; intro v3 gn hb3; refine Hid.out ?_)
 replace hE := hE.kept hb3
 replace hB := hB.trans (hb3.mono hB.size)
 clear hb3
 refine Hid.mk ?_
 go_wp2_with (refine st_arr isArr32 gn (by rfl) (by rfl) ?_; intro v4 gn4 o4; refine Hid.out ?_)
 replace hE := hE.only o4 (by omega)
 replace hB := hB.trans (o4.below hB2)
 clear o4 gn
 refine Hid.mk ?_
 have hcv := str_back 32 v2.heap.size 32 v4 32 K gn4.row hK rfl
 go_wp2_with (refine wl_bs1 (s := m) (by rfl) ?_; intro v5 hS5 hb5 hz5; refine Hid.out ?_)
 replace hE := hE.kept hb5
 replace hB := hB.trans (hb5.mono hB.size)
 clear hb5 hz5 hcv gn4
 refine Hid.mk ?_
 go_wp2_with fail
 refine (markBy_run (mkS 32 K) _ 1 (one1 m) _ hE hS5 (by omega) (by rw [join1]; exact hm)).mono ?_
 rintro x v6 ⟨rfl, hb6⟩
 rw [join1]
 go_wp2_with fail
 go_ret
 exact ⟨rfl, hB.trans (hb6.mono hB.size)⟩
theorem firstMark_run (m : ByteArray) (to : Nat → Int) (w : World) (hE : Env w) (hto : Byts 32 to) (hm : m.size ≤ 562949953421312) :
  Calls Tryz.prog 64 #[.string m, .agg (WA .u8 32 to)] w fun e w' => e = .returned (.string (mrkT m to)) ∧ Below w.heap.size w w' := by
 have hS : ∀ u v, Tabs u → Strs u v 2 (two2 ⟨#[109, 97, 99, 49, 45, 45, 45, 45]⟩ (mkS 32 to)) → Calls Tryz.prog 107 #[v] u fun e w' => e = .returned (.agg (WA .u8 32 (sumF (⟨#[109, 97, 99, 49, 45, 45, 45, 45]⟩ ++ mkS 32 to)))) ∧ Below u.heap.size u w' := fun u v hT hS => by
  have h := hSum_run v 2 (two2 ⟨#[109, 97, 99, 49, 45, 45, 45, 45]⟩ (mkS 32 to)) u hT hS (by omega) (by rw [join2, ByteArray.size_append, mkS_size]; exact (show (8 : Nat) + 32 ≤ 1152921504606846976 by omega))
  rw [join2] at h
  exact h
 have hb : Byts 32 (sumF (⟨#[109, 97, 99, 49, 45, 45, 45, 45]⟩ ++ mkS 32 to)) := fun i _ => outF_b _ i
 unfold mrkT mrkK
 generalize sumF (⟨#[109, 97, 99, 49, 45, 45, 45, 45]⟩ ++ mkS 32 to) = K at *
 exact mac1_gen m to K w hE hto hm hb hS
set_option maxHeartbeats 800000 in
theorem secondMark_run (m f c : ByteArray) (w : World) (hE : Env w) (hm : m.size + f.size ≤ 562949953421312) :
  Calls Tryz.prog 76 #[.string m, .string f, .string c] w fun e w' => e = .returned (.string (keyedT 16 c (m ++ f)).1) ∧ Below w.heap.size w w' := by
 go_enter Tryz.func76, Tryz.ntmps76
 go_wp2_with (refine wl_bs2 (s := m) (t := f) (by rfl) (by rfl) ?_; intro v5 hS5 hb5 hz5; refine Hid.out ?_)
 replace hE := hE.kept hb5
 clear hz5
 refine Hid.mk ?_
 go_wp2_with fail
 refine (markBy_run c _ 2 (two2 m f) _ hE hS5 (by omega) (by rw [join2, ByteArray.size_append]; exact hm)).mono ?_
 rintro x v6 ⟨rfl, hb6⟩
 rw [join2]
 go_wp2_with fail
 go_ret
 exact ⟨rfl, hb5.trans (hb6.mono hb5.size)⟩
theorem zeros16 : (⟨#[0, 0, 0, 0, 0, 0, 0, 0, 0, 0, 0, 0, 0, 0, 0, 0]⟩ : ByteArray) = mkS 16 (fun _ => 0) := by decide +kernel
theorem size_nil {c : ByteArray} : c.size = 0 ↔ c = ⟨#[]⟩ := by
 constructor
 ·intro h
  have : c = ByteArray.empty := by simpa using h
  exact this
 ·rintro rfl
  rfl
def markE (m : ByteArray) (to : Nat → Int) (c : ByteArray) : Ending := if ¬ (m.size = 116 ∨ m.size = 60) then gup 10 else if ¬ (c.size = 0 ∨ c.size = 16) then gup 1 else .returned (.string (marksT m to c))
set_option maxHeartbeats 4000000 in
theorem withMarks_run (m : ByteArray) (to : Nat → Int) (c : ByteArray) (w : World) (hE : Env w) (hto : Byts 32 to) :
  Calls Tryz.prog 60 #[.string m, .agg (WA .u8 32 to), .string c] w fun e w' => e = markE m to c ∧ Below w.heap.size w w' := by
 have hB : Below w.heap.size w (w.alloc (.cells (WA .u8 32 to) 22)) := (Below.refl _ w).alloc (Nat.le_refl _) _
 have g0 : ArrAt (w.alloc (.cells (WA .u8 32 to) 22)) w.heap.size .u8 22 32 to := heap_alloc_new w _
 replace hE := hE.kept hB
 by_cases h1 : m.size = 116 ∨ m.size = 60
 case neg =>
  have e1 : ((m.size : Int) == 116) = false := beq_false_of_ne (by omega)
  have e2 : ((m.size : Int) == 60) = false := beq_false_of_ne (by omega)
  have hR : markE m to c = gup 10 := by unfold markE; rw [if_pos h1]
  rw [hR]
  clear h1
  go_enter Tryz.func60, Tryz.ntmps60
  go_wp2_with fail
  refine (need_no 10 _).mono ?_
  rintro x v9 ⟨rfl, rfl⟩
  exact ⟨rfl, rfl, hB⟩
 have hms : m.size ≤ 1000 := by omega
 have hL1 : m.size + (mrkT m to).size ≤ 9223372036854775807 := by rw [mrkT_size]; omega
 have hL2 : (m ++ mrkT m to).size ≤ 2000 := by rw [ByteArray.size_append, mrkT_size]; omega
 have hFM := fun u hu => firstMark_run m to u hu hto (by omega)
 obtain ⟨F, hF⟩ : ∃ X, mrkT m to = X := ⟨_, rfl⟩
 rw [hF] at hFM hL1 hL2
 have HA : Hid (∀ (Pc : Prop), ((m.size : Int) == 116) = true ∨ (((m.size : Int) == 116) = false ∧ ((m.size : Int) == 60) = true)) := Hid.mk (fun _ => by
  rcases h1 with h | h
  ·left; rw [h]; rfl
  ·right; rw [h]; exact ⟨rfl, rfl⟩)
 by_cases h2 : c.size = 0
 ·have hc := size_nil.1 h2
  subst hc
  have hR : markE m to ⟨#[]⟩ = .returned (.string (m ++ F ++ mkS 16 (fun _ => 0))) := by unfold markE; rw [if_neg (not_not_intro h1), if_neg (not_not_intro (.inl h2)), marksT_eq, hF]; unfold sndT; rw [if_pos h2]
  rw [hR]
  have HL1 := Hid.mk hL1
  have HL2 : Hid ((m ++ F).size + (⟨#[0, 0, 0, 0, 0, 0, 0, 0, 0, 0, 0, 0, 0, 0, 0, 0]⟩ : ByteArray).size ≤ 9223372036854775807) := Hid.mk (by have : (⟨#[0, 0, 0, 0, 0, 0, 0, 0, 0, 0, 0, 0, 0, 0, 0, 0]⟩ : ByteArray).size = 16 := rfl; omega)
  have hee : ((⟨#[]⟩ : ByteArray) == ⟨#[]⟩) = true := rfl
  clear h1 h2
  rcases HA.out True with h | h
  all_goals
   go_enter Tryz.func60, Tryz.ntmps60
   go_wp2_with fail
   refine (need_ok 10 _).mono ?_
   rintro x v1 ⟨rfl, rfl⟩
   go_wp2_with fail
   refine (need_ok 1 _).mono ?_
   rintro x v2 ⟨rfl, rfl⟩
   go_wp2_with (refine ld_arr isArr32 g0 (by rfl) ?_)
   refine (hFM _ hE).mono ?_
   rintro x v3 ⟨rfl, hb⟩
   go_wp2_with (refine wl_value rfl (exec_catS rfl (by rfl) (by rfl) (by first | exact HL1.out | exact HL2.out)) ?_)
   rw [zeros16]
   go_ret
   exact ⟨rfl, hB.trans (hb.mono hB.size)⟩
 ·have hne : ¬ c = ⟨#[]⟩ := fun h => h2 (size_nil.2 h)
  have HNE := Hid.mk hne
  by_cases h3 : c.size = 16
  case neg =>
   have e1 : ((c.size : Int) == 16) = false := beq_false_of_ne (by omega)
   have hR : markE m to c = gup 1 := by unfold markE; rw [if_neg (not_not_intro h1), if_pos (by omega)]
   rw [hR]
   clear h1 h2 h3 hne
   rcases HA.out True with h | h
   all_goals
    go_enter Tryz.func60, Tryz.ntmps60
    go_wp2_with fail
    refine (need_ok 10 _).mono ?_
    rintro x v1 ⟨rfl, rfl⟩
    go_wp2_with (refine wl_value rfl (exec_eqSF rfl (by rfl) (by rfl) HNE.out) ?_)
    refine (need_no 1 _).mono ?_
    rintro x v2 ⟨rfl, rfl⟩
    exact ⟨rfl, rfl, hB⟩
  have e1 : ((c.size : Int) == 16) = true := by rw [h3]; rfl
  have hR : markE m to c = .returned (.string (m ++ F ++ (keyedT 16 c (m ++ F)).1)) := by unfold markE; rw [if_neg (not_not_intro h1), if_neg (not_not_intro (.inr h3)), marksT_eq, hF]; unfold sndT; rw [if_neg h2, hF]
  rw [hR]
  have hks : ((keyedT 16 c (m ++ F)).1).size = 16 := keyed_size _ _ (by omega)
  have hFs : F.size = 16 := by rw [← hF]; exact mrkT_size _ _
  have hSM := fun u hu => secondMark_run m F c u hu (by omega)
  obtain ⟨G, hG⟩ : ∃ X, (keyedT 16 c (m ++ F)).1 = X := ⟨_, rfl⟩
  rw [hG] at hks hSM ⊢
  have HL1 := Hid.mk hL1
  have HL2 : Hid ((m ++ F).size + G.size ≤ 9223372036854775807) := Hid.mk (by omega)
  clear h1 h2 h3 hne hL1 hL2
  rcases HA.out True with h | h
  all_goals
   go_enter Tryz.func60, Tryz.ntmps60
   go_wp2_with fail
   refine (need_ok 10 _).mono ?_
   rintro x v1 ⟨rfl, rfl⟩
   go_wp2_with (refine wl_value rfl (exec_eqSF rfl (by rfl) (by rfl) HNE.out) ?_)
   refine (need_ok 1 _).mono ?_
   rintro x v2 ⟨rfl, rfl⟩
   go_wp2_with (refine ld_arr isArr32 g0 (by rfl) ?_)
   refine (hFM _ hE).mono ?_
   rintro x v3 ⟨rfl, hb⟩
   replace hE := hE.kept hb
   replace hB := hB.trans (hb.mono hB.size)
   go_wp2_with (first | (refine wl_value rfl (exec_eqSF rfl (by rfl) (by rfl) HNE.out) ?_) | (refine wl_value rfl (exec_catS rfl (by rfl) (by rfl) HL1.out) ?_))
   refine (hSM _ hE).mono ?_
   rintro x v4 ⟨rfl, hb4⟩
   go_wp2_with (refine wl_value rfl (exec_catS rfl (by rfl) (by rfl) HL2.out) ?_)
   go_ret
   exact ⟨rfl, hB.trans (hb4.mono hB.size)⟩
set_option maxHeartbeats 4000000 in
theorem Marked_run (m : ByteArray) (k : Nat → Int) (w : World) (hE : Env w) (hk : Byts 32 k) :
  Calls Tryz.prog 20 #[.string m, .agg (WA .u8 32 k)] w fun e w' => e = .returned (.bool (MarkedR m k)) ∧ Below w.heap.size w w' := by
 have hB : Below w.heap.size w (w.alloc (.cells (WA .u8 32 k) 22)) := (Below.refl _ w).alloc (Nat.le_refl _) _
 have g0 : ArrAt (w.alloc (.cells (WA .u8 32 k) 22)) w.heap.size .u8 22 32 k := heap_alloc_new w _
 replace hE := hE.kept hB
 cases hw : isWhole m
 ·have hR : MarkedR m k = false := by unfold MarkedR; rw [hw]; rfl
  rw [hR]
  go_enter Tryz.func20, Tryz.ntmps20
  go_wp2_with fail
  refine (hasMarks_run m _).mono ?_
  rintro x v1 ⟨rfl, hb⟩
  rw [hw]
  go_wp2_with fail
  go_ret
  exact ⟨rfl, hB.trans (hb.mono hB.size)⟩
 ·have hms : m.size = 148 ∨ m.size = 92 := by unfold isWhole at hw; exact of_decide_eq_true hw
  obtain ⟨n, hn⟩ : ∃ n, m.size = n + 32 := ⟨m.size - 32, by omega⟩
  have hn2 : m.size - 32 = n := by omega
  have hR : MarkedR m k = decide (m.extract n (n + 16) = mrkT (m.extract 0 n) k) := by
   unfold MarkedR
   rw [hw, hn2, Bool.true_and]
   exact decide_eq_decide.2 eq_comm
  rw [hR]
  have hxs : (m.extract n (n + 16)).size ≤ 1000 := by rw [ByteArray.size_extract]; omega
  have hys : (m.extract 0 n).size ≤ 1000 := by rw [ByteArray.size_extract]; omega
  have hAP := fun u => apart_run m n u hn (by omega)
  obtain ⟨X, hX⟩ : ∃ X, m.extract n (n + 16) = X := ⟨_, rfl⟩
  obtain ⟨Y, hY⟩ : ∃ X, m.extract 0 n = X := ⟨_, rfl⟩
  obtain ⟨V, hV⟩ : ∃ X, m.extract (n + 16) m.size = X := ⟨_, rfl⟩
  rw [hX] at hxs hAP ⊢
  rw [hY] at hys hAP ⊢
  rw [hV] at hAP
  go_enter Tryz.func20, Tryz.ntmps20
  go_wp2_with fail
  refine (hasMarks_run m _).mono ?_
  rintro x v1 ⟨rfl, hb⟩
  rw [hw]
  replace hE := hE.kept hb
  replace g0 := g0.kept hb
  replace hB := hB.trans (hb.mono hB.size)
  clear hb
  go_wp2_with fail
  refine (hAP _).mono ?_
  rintro x v2 ⟨rfl, hb⟩
  replace hE := hE.kept hb
  replace g0 := g0.kept hb
  replace hB := hB.trans (hb.mono hB.size)
  clear hb
  go_wp2_with (refine ld_arr isArr32 g0 (by rfl) ?_)
  refine (firstMark_run Y k _ hE hk (by omega)).mono ?_
  rintro x v3 ⟨rfl, hb⟩
  replace hB := hB.trans (hb.mono hB.size)
  clear hb
  go_wp2_with fail
  refine (Same_run X (mrkT Y k) _ (by omega)).mono ?_
  rintro x v4 ⟨rfl, hb⟩
  go_wp2_with fail
  go_ret
  exact ⟨rfl, hB.trans (hb.mono hB.size)⟩
end Go.Proofs.YthghcjepdhkfdaaGreatDoor

/-
  Own text. What Begin, Accept, Answer, Finish and Mark of package noise answer.
-/
namespace Go.Proofs.YthghcjepdhkfdaaGreatDoor
open Go.RowKit Go.Proofs
set_option maxRecDepth 100000
theorem Begin_all (O P E T : Nat → Int) (ix : Int) (w : World) (hE : Env w) (hO : Byts 32 O) (hP : Byts 32 P) (hEk : Byts 32 E) (hT : Byts 12 T) :
  Calls Tryz.prog 9 #[.agg (WA .u8 32 O), .agg (WA .u8 32 P), .agg (WA .u8 32 E), .agg (WA .u8 12 T), .int .u32 ix] w fun e w' => e = .returned (BeginR O P E T (begH P) begC ix) ∧ Below w.heap.size w w' := by
 have hb := fun u hu => beginning_run P u hu hP
 have h0 := begH_b P 32
 have h1 := begC_b 32
 generalize begH P = H0 at *
 generalize begC = C0 at *
 unfold BeginR
 by_cases hz1 : shZ E P = true
 ·by_cases hz2 : shZ O P = true
  ·rw [if_pos ⟨hz1, hz2⟩]
   exact Begin_ok O P E T ix _ _ w hE (hanV_one _ _ _ _ _ _ _) (fun u hu => begin_ok O P E T H0 C0 ix u hu hO hP hEk hT h1 h0 hz1 hz2 hb)
  ·rw [if_neg (fun h => hz2 h.2)]
   exact Begin_no O P E T ix 18 w hE (fun u hu => begin_no2 O P E T H0 C0 ix u hu hO hP hEk hT h1 h0 hz1 (by simpa using hz2) hb)
 ·rw [if_neg (fun h => hz1 h.1)]
  exact Begin_no O P E T ix 18 w hE (fun u hu => begin_no1 O P E T H0 C0 ix u hu hO hP hEk hT h1 h0 (by simpa using hz1) hb)
theorem kind_at (m : ByteArray) (n : UInt8) (h : 4 ≤ m.size) : numA m 0 4 = (n.toNat : Int) ↔ m.extract 0 4 = ⟨#[n, 0, 0, 0]⟩ := by
 have h1 : (m.extract 0 4).size = 4 := by rw [ByteArray.size_extract]; omega
 have h2 := numA_four m 0 h
 rw [Nat.zero_add] at h2
 rw [h2]
 exact kind_iff h1 n
theorem Accept_all (O : Nat → Int) (m : ByteArray) (w : World) (hE : Env w) (hO : Byts 32 O) :
  Calls Tryz.prog 11 #[.agg (WA .u8 32 O), .string m] w fun e w' => e = .returned (AcceptR O (begH (pubF O)) begC m) ∧ Below w.heap.size w w' := by
 have hb := fun u hu => beginning_run (pubF O) u hu (pubF_b O 32)
 have h0 := begH_b (pubF O) 32
 have h1 := begC_b 32
 generalize begH (pubF O) = H0 at *
 generalize begC = C0 at *
 by_cases hs : m.size = 148
 ·have hk := kind_at m 1 (by omega)
  by_cases ht : m.extract 0 4 = ⟨#[1, 0, 0, 0]⟩
  ·have hk1 : numA m 0 4 = 1 := hk.2 ht
   by_cases hz1 : shZ O (acE m) = true
   ·by_cases hz2 : (acP O H0 C0 m).2 = 0
    ·by_cases hz3 : shZ O (acK O H0 C0 m) = true
     ·by_cases hz4 : (acT O H0 C0 m).2 = 0
      ·have hR : AcceptR O H0 C0 m = .tuple #[.agg (SC 162 (hanV (acH3 H0 m) (acM O H0 C0 m 0) (fun _ => 0) (acE m) (acK O H0 C0 m) 0 (numA m 4 4))), .agg (WA .u8 12 (txt (acT O H0 C0 m).1)), .int .i64 0] := by
        unfold AcceptR
        rw [if_neg (not_not_intro hs), if_neg (not_not_intro ht), if_neg (not_not_intro hz1), if_neg (not_not_intro hz2), if_neg (not_not_intro hz3), if_neg (not_not_intro hz4), numA_four m 4 (by omega)]
       rw [hR]
       exact Accept_ok O m _ _ w hE (hanV_one _ _ _ _ _ _ _) (fun u hu => accept_ok O H0 C0 m u hu hO h1 h0 hs hk1 hz1 hz2 hz3 hz4 hb)
      ·have hR : AcceptR O H0 C0 m = accB 13 := by unfold AcceptR; rw [if_neg (not_not_intro hs), if_neg (not_not_intro ht), if_neg (not_not_intro hz1), if_neg (not_not_intro hz2), if_neg (not_not_intro hz3), if_pos hz4]
       rw [hR]
       exact Accept_no O m 13 w hE (fun u hu => accept_o2 O H0 C0 m u hu hO h1 h0 hs hk1 hz1 hz2 hz3 hz4 hb)
     ·have hR : AcceptR O H0 C0 m = accB 18 := by unfold AcceptR; rw [if_neg (not_not_intro hs), if_neg (not_not_intro ht), if_neg (not_not_intro hz1), if_neg (not_not_intro hz2), if_pos hz3]
      rw [hR]
      exact Accept_no O m 18 w hE (fun u hu => accept_z2 O H0 C0 m u hu hO h1 h0 hs hk1 hz1 hz2 (by simpa using hz3) hb)
    ·have hR : AcceptR O H0 C0 m = accB 13 := by unfold AcceptR; rw [if_neg (not_not_intro hs), if_neg (not_not_intro ht), if_neg (not_not_intro hz1), if_pos hz2]
     rw [hR]
     exact Accept_no O m 13 w hE (fun u hu => accept_o1 O H0 C0 m u hu hO h1 h0 hs hk1 hz1 hz2 hb)
   ·have hR : AcceptR O H0 C0 m = accB 18 := by unfold AcceptR; rw [if_neg (not_not_intro hs), if_neg (not_not_intro ht), if_pos hz1]
    rw [hR]
    exact Accept_no O m 18 w hE (fun u hu => accept_z1 O H0 C0 m u hu hO h1 h0 hs hk1 (by simpa using hz1) hb)
  ·have hR : AcceptR O H0 C0 m = accB 11 := by unfold AcceptR; rw [if_neg (not_not_intro hs), if_pos ht]
   rw [hR]
   exact Accept_no O m 11 w hE (fun u hu => by
    have h := accept_form O H0 C0 m u hu hO h1 h0 (fun h => ht (hk.1 h.2)) hb
    rw [if_pos hs] at h
    exact h)
 ·have hR : AcceptR O H0 C0 m = accB 10 := by unfold AcceptR; rw [if_pos hs]
  rw [hR]
  exact Accept_no O m 10 w hE (fun u hu => by
   have h := accept_form O H0 C0 m u hu hO h1 h0 (fun h => hs h.1) hb
   rw [if_neg hs] at h
   exact h)
theorem Answer_all (H C O R P S E : Nat → Int) (l f ix : Int) (w : World) (hE : Env w) (hH : Byts 32 H) (hC : Byts 32 C) (hR : Byts 32 R) (hP : Byts 32 P) (hS : Byts 32 S) (hEk : Byts 32 E) :
  Calls Tryz.prog 13 #[.agg (SC 162 (hanV H C O R P l f)), .agg (WA .u8 32 S), .agg (WA .u8 32 E), .int .u32 ix] w fun e w' => e = .returned (AnswerR H C R P S E f ix) ∧ Below w.heap.size w w' := by
 have hst := fun u hu => answer_run H C O R P S E l f ix u hu hH hC hR hP hS hEk
 unfold answerE at hst
 unfold AnswerR
 by_cases hz : shZ E R = true ∧ shZ E P = true
 ·rw [if_pos hz] at hst ⊢
  exact Answer_ok (hanV H C O R P l f) S E ix _ _ w hE (paiV_one _ _ _ _) hst
 ·rw [if_neg hz] at hst ⊢
  exact Answer_no (hanV H C O R P l f) S E ix 18 w hE hst
theorem Finish_all (O H C A R P S : Nat → Int) (l f : Int) (m : ByteArray) (w : World) (hE : Env w) (hO : Byts 32 O) (hH : Byts 32 H) (hC : Byts 32 C) (hA : Byts 32 A) (hS : Byts 32 S) :
  Calls Tryz.prog 15 #[.agg (WA .u8 32 O), .agg (SC 162 (hanV H C A R P l f)), .agg (WA .u8 32 S), .string m] w fun e w' => e = .returned (FinishR O H C A S l m) ∧ Below w.heap.size w w' := by
 have hst := fun u hu => finish_run O H C A R P S l f m u hu hO hH hC hA hS
 unfold finishE at hst
 have no : ∀ X : Int, FinishR O H C A S l m = finO X → (∀ u, Env u → Calls Tryz.prog 55 #[.agg (WA .u8 32 O), .agg (SC 162 (hanV H C A R P l f)), .agg (WA .u8 32 S), .string m] u fun e w' => e = gup X ∧ Below u.heap.size u w') → Calls Tryz.prog 15 #[.agg (WA .u8 32 O), .agg (SC 162 (hanV H C A R P l f)), .agg (WA .u8 32 S), .string m] w fun e w' => e = .returned (FinishR O H C A S l m) ∧ Below w.heap.size w w' := fun X hX h => by
  rw [hX]
  exact Finish_no O (hanV H C A R P l f) S m X w hE h
 by_cases hs : m.size = 92
 ·have hk := kind_at m 2 (by omega)
  by_cases ht : m.extract 0 4 = ⟨#[2, 0, 0, 0]⟩
  ·have hk1 : numA m 0 4 = 2 := hk.2 ht
   have e8 : numA m 8 4 = numT (m.extract 8 12) := numA_four m 8 (by omega)
   by_cases h8 : numT (m.extract 8 12) = l
   ·by_cases hz : shZ A (fiE m) = true ∧ shZ O (fiE m) = true
    ·by_cases hf : (fiT H C A O S m).2 = 0
     ·simp only [if_neg (not_not_intro (And.intro hs hk1)), e8, if_neg (not_not_intro h8), if_neg (not_not_intro hz), if_neg (not_not_intro hf)] at hst
      have hR : FinishR O H C A S l m = .tuple #[.agg (SC 66 (paiV (fiN C A O S m 0) (fiN C A O S m 1) l (numA m 4 4))), .int .i64 0] := by
       unfold FinishR
       rw [if_neg (not_not_intro hs), if_neg (not_not_intro ht), if_neg (not_not_intro h8), if_neg (not_not_intro hz), if_neg (not_not_intro hf), numA_four m 4 (by omega)]
      rw [hR]
      exact Finish_ok O (hanV H C A R P l f) S m _ w hE (paiV_one _ _ _ _) hst
     ·simp only [if_neg (not_not_intro (And.intro hs hk1)), e8, if_neg (not_not_intro h8), if_neg (not_not_intro hz), if_pos hf] at hst
      exact no 13 (by unfold FinishR; rw [if_neg (not_not_intro hs), if_neg (not_not_intro ht), if_neg (not_not_intro h8), if_neg (not_not_intro hz), if_pos hf]) hst
    ·simp only [if_neg (not_not_intro (And.intro hs hk1)), e8, if_neg (not_not_intro h8), if_pos hz] at hst
     exact no 18 (by unfold FinishR; rw [if_neg (not_not_intro hs), if_neg (not_not_intro ht), if_neg (not_not_intro h8), if_pos hz]) hst
   ·simp only [if_neg (not_not_intro (And.intro hs hk1)), e8, if_pos h8] at hst
    exact no 15 (by unfold FinishR; rw [if_neg (not_not_intro hs), if_neg (not_not_intro ht), if_pos h8]) hst
  ·have hn : ¬ (m.size = 92 ∧ numA m 0 4 = 2) := fun h => ht (hk.1 h.2)
   simp only [if_pos hn, if_pos hs] at hst
   exact no 11 (by unfold FinishR; rw [if_neg (not_not_intro hs), if_pos ht]) hst
 ·have hn : ¬ (m.size = 92 ∧ numA m 0 4 = 2) := fun h => hs h.1
  simp only [if_pos hn, if_neg hs] at hst
  exact no 10 (by unfold FinishR; rw [if_pos hs]) hst
theorem Mark_all (m : ByteArray) (to : Nat → Int) (c : ByteArray) (w : World) (hE : Env w) (hto : Byts 32 to) :
  Calls Tryz.prog 19 #[.string m, .agg (WA .u8 32 to), .string c] w fun e w' => e = .returned (.tuple #[.string (MarkR m to c).1, .int .i64 (MarkR m to c).2]) ∧ Below w.heap.size w w' := by
 have hst := fun u hu => withMarks_run m to c u hu hto
 unfold markE at hst
 unfold MarkR
 by_cases h1 : ¬ (m.size = 116 ∨ m.size = 60)
 ·simp only [if_pos h1] at hst ⊢
  exact Mark_no m to c 10 w hE hst
 ·by_cases h2 : ¬ (c.size = 0 ∨ c.size = 16)
  ·simp only [if_neg h1, if_pos h2] at hst ⊢
   exact Mark_no m to c 1 w hE hst
  ·simp only [if_neg h1, if_neg h2] at hst ⊢
   exact Mark_ok m to c _ w hE hst
end Go.Proofs.YthghcjepdhkfdaaGreatDoor

/-
  Own text. The law NoiseMeets, walked.
-/
namespace Go.Proofs.YthghcjepdhkfdaaGreatDoor
open Go.RowKit Go.Proofs
set_option maxRecDepth 100000
theorem enterBeg (args : Array Value) (w : World) : (callFunc 9 args).run Tryz.prog w = .ok (.enter 9 args) w := by kernel_rfl
theorem eqG32m : Tryz.prog.eqGuardType Tryz.prog.depth 22 = false := by kernel_rfl
def keyV (O E : Nat → Int) (ix : Int) (i : Nat) : Value := if i < 32 then .int .u8 (O i) else if i < 64 then .int .u8 (E (i - 32)) else .int .u32 ix
def shaV (m : ByteArray) (S : Nat → Int) (i : Nat) : Value := if i < 1 then .string m else .int .u8 (S (i - 1))
section
variable {w : World} {b : Nat} {O E S R : Nat → Int} {ix l f : Int} {m : ByteArray}
theorem key_o (h : SAt w b 25 65 (keyV O E ix)) : w.rangeAt b 0 (nums .u8 32 O) := h.range (by omega) (fun j hj => by unfold keyV; rw [Nat.zero_add, if_pos hj])
theorem key_e (h : SAt w b 25 65 (keyV O E ix)) : w.rangeAt b 32 (nums .u8 32 E) := h.range (by omega) (fun j hj => by unfold keyV; rw [if_neg (by omega), if_pos (by omega), Nat.add_sub_cancel_left])
theorem key_i (h : SAt w b 25 65 (keyV O E ix)) : w.cell? ⟨b, 64, none⟩ = some (.int .u32 ix) := h.at 64 (by omega)
theorem sha_s (h : SAt w b 39 33 (shaV m S)) : w.rangeAt b 1 (nums .u8 32 S) := h.range (by omega) (fun j hj => by unfold shaV; rw [if_neg (by omega), Nat.add_sub_cancel_left])
theorem pai_s (h : SAt w b 41 66 (paiV S R l f)) : w.rangeAt b 0 (nums .u8 32 S) := h.range (by omega) (fun j hj => by unfold paiV; rw [Nat.zero_add, if_pos hj])
theorem pai_r (h : SAt w b 41 66 (paiV S R l f)) : w.rangeAt b 32 (nums .u8 32 R) := h.range (by omega) (fun j hj => by unfold paiV; rw [if_neg (by omega), if_pos (by omega), Nat.add_sub_cancel_left])
theorem pai_l (h : SAt w b 41 66 (paiV S R l f)) : w.cell? ⟨b, 64, none⟩ = some (.int .u32 l) := h.at 64 (by omega)
theorem pai_f (h : SAt w b 41 66 (paiV S R l f)) : w.cell? ⟨b, 65, none⟩ = some (.int .u32 f) := h.at 65 (by omega)
end
theorem run_fky (b k : Nat) (w : World) : k < 3 → (Instr.fieldAt 25 (.pointer (some ⟨b, 0, none⟩)) k).run Tryz.prog w = .ok (.pointer (some ⟨b, [0, 32, 64].getD k 0, none⟩)) w := by
 intro hk
 match k, hk with
 | 0, _ => simp [go_sem]
 | 1, _ => simp [go_sem]
 | 2, _ => simp [go_sem]
theorem exec_fky {a : Act} {o : Oper} {w : World} {x : Operand} {k : Nat} (ho : o.op = .fieldAddr 25 x k) {b : Nat} (hx : a.eval x = .pointer (some ⟨b, 0, none⟩)) (hk : k < 3) : (execOp a.eval o).run Tryz.prog w = .ok (.value (.pointer (some ⟨b, [0, 32, 64].getD k 0, none⟩))) w := by
 have h := run_fky b k w hk
 unfold execOp
 simp only [ho, hx, Sem.run_bind, h, Result.andThen_ok, Sem.run_pure]
theorem exec_fh4 {a : Act} {o : Oper} {w : World} {x : Operand} (ho : o.op = .fieldAddr 31 x 4) {b : Nat} (hx : a.eval x = .pointer (some ⟨b, 0, none⟩)) : (execOp a.eval o).run Tryz.prog w = .ok (.value (.pointer (some ⟨b, 128, none⟩))) w := by
 have h : (Instr.fieldAt 31 (.pointer (some ⟨b, 0, none⟩)) 4).run Tryz.prog w = .ok (.pointer (some ⟨b, 128, none⟩)) w := by simp [go_sem]
 unfold execOp
 simp only [ho, hx, Sem.run_bind, h, Result.andThen_ok, Sem.run_pure]
theorem zeroPairV (w : World) : (zeroValue 41).run Tryz.prog w = .ok (.agg (SC 66 paiZ)) w := by kernel_rfl
theorem wl_allocP {ops : Array Oper} {rest : List Oper} {d : Option Tmp} {t : TypeId} {ps : String} {af : Array Edge} {a : Act} {w : World} {Q : Exit → Act → World → Prop}
  (h : ∀ w', SAt w' w.heap.size 41 66 paiZ → Below w.heap.size w w' → wpList Tryz.prog ops Q rest (a.put d (.pointer (some ⟨w.heap.size, 0, none⟩))) w') :
  wpList Tryz.prog ops Q ({ dst := d, op := .alloc 41, type := t, pos := ps, after := af, guard := none } :: rest) a w :=
 wl_act rfl (act_alloc zeroPairV rfl (fun w' hb hg => h w' hg hb))
set_option maxHeartbeats 8000000 in
set_option maxRecDepth 100000 in
theorem meets_gen (A B Ea Eb S PA PB PE H3 C3 N0 N1 : Nat → Int) (ia ib : Int) (msg MS m1 ms2 m2 : ByteArray) (w : World) (hE : Env w) (hia : W32 ia) (hm1 : m1.size = 148) (hm2 : m2.size = 92)
  (hPA : ∀ u, Env u → Calls Tryz.prog 18 #[.agg (WA .u8 32 A)] u fun e w' => e = .returned (.agg (WA .u8 32 PA)) ∧ Below u.heap.size u w')
  (hPB : ∀ u, Env u → Calls Tryz.prog 18 #[.agg (WA .u8 32 B)] u fun e w' => e = .returned (.agg (WA .u8 32 PB)) ∧ Below u.heap.size u w')
  (hBG : ∀ u, Env u → Calls Tryz.prog 9 #[.agg (WA .u8 32 A), .agg (WA .u8 32 PB), .agg (WA .u8 32 Ea), .agg (WA .u8 12 (stmF ia)), .int .u32 ia] u fun e w' => e = .returned (.tuple #[.string MS, .agg (SC 162 (hanV H3 C3 Ea (fun _ => 0) PB ia 0)), .int .i64 0]) ∧ Below u.heap.size u w')
  (hM1 : ∀ u, Env u → Calls Tryz.prog 19 #[.string MS, .agg (WA .u8 32 PB), .string ⟨#[]⟩] u fun e w' => e = .returned (.tuple #[.string m1, .int .i64 0]) ∧ Below u.heap.size u w')
  (hMD : ∀ u, Env u → Calls Tryz.prog 20 #[.string m1, .agg (WA .u8 32 PB)] u fun e w' => e = .returned (.bool true) ∧ Below u.heap.size u w')
  (hAC : ∀ u, Env u → Calls Tryz.prog 11 #[.agg (WA .u8 32 B), .string m1] u fun e w' => e = .returned (.tuple #[.agg (SC 162 (hanV H3 C3 (fun _ => 0) PE PA 0 ia)), .agg (WA .u8 12 (stmF ia)), .int .i64 0]) ∧ Below u.heap.size u w')
  (hAN : ∀ u, Env u → Calls Tryz.prog 13 #[.agg (SC 162 (hanV H3 C3 (fun _ => 0) PE PA 0 ia)), .agg (WA .u8 32 S), .agg (WA .u8 32 Eb), .int .u32 ib] u fun e w' => e = .returned (.tuple #[.string ms2, .agg (SC 66 (paiV N1 N0 ib ia)), .int .i64 0]) ∧ Below u.heap.size u w')
  (hM2 : ∀ u, Env u → Calls Tryz.prog 19 #[.string ms2, .agg (WA .u8 32 PA), .string ⟨#[]⟩] u fun e w' => e = .returned (.tuple #[.string m2, .int .i64 0]) ∧ Below u.heap.size u w')
  (hFI : ∀ u, Env u → Calls Tryz.prog 15 #[.agg (WA .u8 32 A), .agg (SC 162 (hanV H3 C3 Ea (fun _ => 0) PB ia 0)), .agg (WA .u8 32 S), .string m2] u fun e w' => e = .returned (.tuple #[.agg (SC 66 (paiV N0 N1 ia ib)), .int .i64 0]) ∧ Below u.heap.size u w') :
  Calls Tryz.prog 5 #[.agg (SC 65 (keyV A Ea ia)), .agg (SC 65 (keyV B Eb ib)), .agg (SC 33 (shaV msg S))] w fun e w' => e = .returned (.bool true) ∧ Below w.heap.size w w' := by
 have hB : Below w.heap.size w (((w.alloc (.cells (SC 65 (keyV A Ea ia)) 25)).alloc (.cells (SC 65 (keyV B Eb ib)) 25)).alloc (.cells (SC 33 (shaV msg S)) 39)) := (((Below.refl _ w).alloc (by simp) _).alloc (by simp) _).alloc (by simp; omega) _
 have k0 : SAt (((w.alloc (.cells (SC 65 (keyV A Ea ia)) 25)).alloc (.cells (SC 65 (keyV B Eb ib)) 25)).alloc (.cells (SC 33 (shaV msg S)) 39)) w.heap.size 25 65 (keyV A Ea ia) := heap_a31 w _ _ _
 have k1 : SAt (((w.alloc (.cells (SC 65 (keyV A Ea ia)) 25)).alloc (.cells (SC 65 (keyV B Eb ib)) 25)).alloc (.cells (SC 33 (shaV msg S)) 39)) (w.heap.size + 1) 25 65 (keyV B Eb ib) := heap_a32 w _ _ _
 have k2 : SAt (((w.alloc (.cells (SC 65 (keyV A Ea ia)) 25)).alloc (.cells (SC 65 (keyV B Eb ib)) 25)).alloc (.cells (SC 33 (shaV msg S)) 39)) (w.heap.size + 1 + 1) 39 33 (shaV msg S) := heap_a3 w _ _ _
 replace hE := hE.kept hB
 have hmI : (m1.size : Int) = 148 := by omega
 have hmJ : (m2.size : Int) = 92 := by omega
 unfold W32 at hia
 go_enter Tryz.func5, Tryz.ntmps5
 go_wp2_with fail
 refine (awake7_run _ hE).mono ?_
 rintro x v1 ⟨rfl, hb⟩
 replace k0 := k0.kept hb
 replace k1 := k1.kept hb
 replace k2 := k2.kept hb
 replace hE := hE.kept hb
 replace hB := hB.trans (hb.mono hB.size)
 clear hb
 have hci := key_i k0
 go_wp2_with fail
 refine (Stamp_run ia _).mono ?_
 rintro x v2 ⟨rfl, hb⟩
 replace k0 := k0.kept hb
 replace k1 := k1.kept hb
 replace k2 := k2.kept hb
 replace hE := hE.kept hb
 replace hB := hB.trans (hb.mono hB.size)
 clear hb
 clear hci
 have lak0 := k0.lt
 have lak1 := k1.lt
 have lak2 := k2.lt
 have laB := hB.size
 have laE := hE.two
 go_wp2_with (refine wl_alloc12 ?_; intro v3 g80 hb; refine Hid.out ?_)
 replace k0 := k0.kept hb
 replace k1 := k1.kept hb
 replace k2 := k2.kept hb
 replace hE := hE.kept hb
 replace hB := hB.trans (hb.mono hB.size)
 clear hb
 refine Hid.mk ?_
 go_wp2_with (refine st_arr isArr12 g80 (by rfl) (by rfl) ?_; intro v4 g8 o6; refine Hid.out ?_)
 replace k0 := k0.only o6 (by omega)
 replace k1 := k1.only o6 (by omega)
 replace k2 := k2.only o6 (by omega)
 replace hE := hE.only o6 (by omega)
 replace hB := hB.trans (o6.below (by omega))
 clear o6
 clear g80
 refine Hid.mk ?_
 obtain ⟨b8, hb8⟩ : ∃ x, v2.heap.size = x := ⟨_, rfl⟩
 rw [hb8] at g8 lak0 lak1 lak2 laB laE ⊢
 clear hb8
 have HPB := Hid.mk hPB
 have HBG := Hid.mk hBG
 go_wp2_with fail
 have HK0 : Hid (∀ u, Below v4.heap.size v4 u → SAt u w.heap.size 25 65 (keyV A Ea ia)) := Hid.mk (fun u hu => k0.kept hu)
 have HK1 : Hid (∀ u, Below v4.heap.size v4 u → SAt u (w.heap.size + 1) 25 65 (keyV B Eb ib)) := Hid.mk (fun u hu => k1.kept hu)
 have HG8 : Hid (∀ u, Below v4.heap.size v4 u → ArrAt u b8 .u8 26 12 (stmF ia)) := Hid.mk (fun u hu => g8.kept hu)
 have HEN : Hid (∀ u, Below v4.heap.size v4 u → Env u) := Hid.mk (fun u hu => hE.kept hu)
 refine wp_region3 (Below v4.heap.size v4) v4.heap.size
   ([] : List (Nat × Cont))
   [kv (.pointer (some ⟨w.heap.size, 0, none⟩)), kv (.agg (WA .u8 32 A)), kv (.pointer (some ⟨(w.heap.size + 1), 0, none⟩)), kv (.agg (WA .u8 32 B)), kv (.agg (WA .u8 32 PB)), kv (.pointer (some ⟨w.heap.size, 32, none⟩)), kv (.agg (WA .u8 32 Ea)), kv (.agg (WA .u8 12 (stmF ia))), kv (.pointer (some ⟨w.heap.size, 64, none⟩)), kv (.int .u32 ia), kv (.tuple #[.string MS, .agg (SC 162 (hanV H3 C3 Ea (fun _ => 0) PB ia 0)), .int .i64 0]), kv (.tuple #[.string MS, .agg (SC 162 (hanV H3 C3 Ea (fun _ => 0) PB ia 0)), .int .i64 0]), kv (.string MS), kv (.agg (SC 162 (hanV H3 C3 Ea (fun _ => 0) PB ia 0))), kv (.int .i64 0), kp (SC 162 hanZ) 31 17 (SC 162 (hanV H3 C3 Ea (fun _ => 0) PB ia 0)), kv (.string MS), .val fun _ => True, kv (.int .i64 0)]
   [.none, .none, .none, .none, .none, .none, .none, .none, .none, .none, .none, .none, .none, .none, .none, .none, .none, .own 15 1, .none]
   [some 30, some 31, some 32, some 33, some 34, some 35, some 36, some 37, some 38, some 39, some 40, some 29, some 41, some 42, some 43, some 10, some 9, none, some 11]
   [(3, .pointer (some ⟨w.heap.size, 0, none⟩)), (4, .pointer (some ⟨(w.heap.size + 1), 0, none⟩)), (8, .pointer (some ⟨b8, 0, none⟩))]
   [[], [.slot 0], [], [.slot 2], [.slot 3], [], [.slot 5], [], [], [.slot 8], [.slot 1, .slot 4, .slot 6, .slot 7, .slot 9], [.slot 10], [.slot 11], [.slot 11], [.slot 11], [], [.slot 12], [.slot 15, .cont 15 0, .slot 13], [.slot 14]]
   [.slot 16, .slot 18, .slot 15, .cont 15 1] [30, 31, 32, 33, 34, 35, 36, 37, 38, 39, 40, 29, 41, 42, 43, 10, 9, 11]
   rfl (by kernel_rfl) ⟨rfl, rfl, rfl, trivial⟩ (Below.refl _ v4).drew (Nat.le_refl _) trivial trivial (below_G (Nat.le_refl _) trivial)
   ⟨
    (fun Q aq ww own hS hBg fr kn => .inl ⟨trivial, fun K hK => wp_value (exec_fky (k := 0) rfl fr.1 (by decide)) (hK _ _ ⟨Touch.refl _ _, rfl⟩)⟩),
    (fun Q aq ww own hS hBg fr kn => .inl ⟨trivial, fun K hK => wp_value (exec_ldmid rfl isArr32 kn.1 (key_o (HK0.out ww hS))) (hK _ _ ⟨Touch.refl _ _, rfl⟩)⟩),
    (fun Q aq ww own hS hBg fr kn => .inl ⟨trivial, fun K hK => wp_value (exec_fky (k := 0) rfl fr.2.1 (by decide)) (hK _ _ ⟨Touch.refl _ _, rfl⟩)⟩),
    (fun Q aq ww own hS hBg fr kn => .inl ⟨trivial, fun K hK => wp_value (exec_ldmid rfl isArr32 kn.1 (key_o (HK1.out ww hS))) (hK _ _ ⟨Touch.refl _ _, rfl⟩)⟩),
    (fun Q aq ww own hS hBg fr kn => .inl ⟨trivial, fun K hK => stepc enterPub rfl (args1 kn.1) (HPB.out ww (HEN.out ww hS)) (fun w' hb => hK _ _ ⟨touch_below hb, rfl⟩)⟩),
    (fun Q aq ww own hS hBg fr kn => .inl ⟨trivial, fun K hK => wp_value (exec_fky (k := 1) rfl fr.1 (by decide)) (hK _ _ ⟨Touch.refl _ _, rfl⟩)⟩),
    (fun Q aq ww own hS hBg fr kn => .inl ⟨trivial, fun K hK => wp_value (exec_ldmid rfl isArr32 kn.1 (key_e (HK0.out ww hS))) (hK _ _ ⟨Touch.refl _ _, rfl⟩)⟩),
    (fun Q aq ww own hS hBg fr kn => .inl ⟨trivial, fun K hK => wp_value (look_arr rfl isArr12 (HG8.out ww hS) fr.2.2.1) (hK _ _ ⟨Touch.refl _ _, rfl⟩)⟩),
    (fun Q aq ww own hS hBg fr kn => .inl ⟨trivial, fun K hK => wp_value (exec_fky (k := 2) rfl fr.1 (by decide)) (hK _ _ ⟨Touch.refl _ _, rfl⟩)⟩),
    (fun Q aq ww own hS hBg fr kn => .inl ⟨trivial, fun K hK => wp_value (exec_ld rfl kn.1 (run_load32 (key_i (HK0.out ww hS)))) (hK _ _ ⟨Touch.refl _ _, rfl⟩)⟩),
    (fun Q aq ww own hS hBg fr kn => .inl ⟨trivial, fun K hK => stepc enterBeg rfl (args5 kn.1 kn.2.1 kn.2.2.1 kn.2.2.2.1 kn.2.2.2.2.1) (HBG.out ww (HEN.out ww hS)) (fun w' hb => hK _ _ ⟨touch_below hb, rfl⟩)⟩),
    (fun Q aq ww own hS hBg fr kn => .inl ⟨trivial, fun K hK => wp_value (exec_move rfl kn.1) (hK _ _ ⟨Touch.refl _ _, rfl⟩)⟩),
    (fun Q aq ww own hS hBg fr kn => .inl ⟨trivial, fun K hK => wp_value (exec_ext rfl kn.1 rfl) (hK _ _ ⟨Touch.refl _ _, rfl⟩)⟩),
    (fun Q aq ww own hS hBg fr kn => .inl ⟨trivial, fun K hK => wp_value (exec_ext rfl kn.1 rfl) (hK _ _ ⟨Touch.refl _ _, rfl⟩)⟩),
    (fun Q aq ww own hS hBg fr kn => .inl ⟨trivial, fun K hK => wp_value (exec_ext rfl kn.1 rfl) (hK _ _ ⟨Touch.refl _ _, rfl⟩)⟩),
    (fun Q aq ww own hS hBg fr kn => .inl ⟨trivial, fun K hK => act_alloc zeroHandV rfl (fun w' hb hg => hK _ _ ⟨touch_below hb, _, Nat.le_refl _, rfl, obIn hg⟩)⟩),
    (fun Q aq ww own hS hBg fr kn => .inl ⟨trivial, fun K hK => wp_value (exec_assign rfl kn.1) (hK _ _ ⟨Touch.refl _ _, rfl⟩)⟩),
    (fun Q aq ww own hS hBg fr kn => .inl ⟨trivial, fun K hK => act_st7 rfl isHand (hanV_one _ _ _ _ _ _ _) kn.1.1 kn.2.2.1 (obAt kn.2.1) (fun w2 hg ho => hK _ _ ⟨touch_only ho, obIn hg, trivial⟩)⟩),
    (fun Q aq ww own hS hBg fr kn => .inl ⟨trivial, fun K hK => wp_value (exec_assign rfl kn.1) (hK _ _ ⟨Touch.refl _ _, rfl⟩)⟩),
    trivial⟩ ?_
 intro vs own v5 hb hs1 kn inj
 clear inj hs1 HK0 HK1 HG8 HEN HBG
 obtain ⟨e9, e11, k15, c15, -⟩ := kn
 obtain ⟨e10, hb10, _⟩ := k15
 change vs 9 = _ at e9
 change vs 11 = _ at e11
 change vs 10 = _ at e10
 have gh : SAt v5 (own 15) 31 162 (hanV H3 C3 Ea (fun _ => 0) PB ia 0) := obAt c15
 clear c15
 replace k0 := k0.kept hb
 replace k1 := k1.kept hb
 replace k2 := k2.kept hb
 replace g8 := g8.kept hb
 replace hE := hE.kept hb
 replace hB := hB.trans (hb.mono hB.size)
 clear hb
 simp only [putAll, Act.put, List.setIfInBounds_toArray, List.set_cons_zero, List.set_cons_succ, e9, e10, e11]
 generalize own 15 = b10 at *
 clear e9 e10 e11
 have hr1 := key_o k1
 go_wp2_with (refine wl_value rfl (exec_ldmid rfl isArr32 (by rfl) hr1) ?_)
 refine (hPB _ hE).mono ?_
 rintro x v6 ⟨rfl, hb⟩
 replace k0 := k0.kept hb
 replace k1 := k1.kept hb
 replace k2 := k2.kept hb
 replace g8 := g8.kept hb
 replace gh := gh.kept hb
 replace hE := hE.kept hb
 replace hB := hB.trans (hb.mono hB.size)
 clear hb
 clear hr1
 go_wp2_with fail
 refine (hM1 _ hE).mono ?_
 rintro x v7 ⟨rfl, hb⟩
 replace k0 := k0.kept hb
 replace k1 := k1.kept hb
 replace k2 := k2.kept hb
 replace g8 := g8.kept hb
 replace gh := gh.kept hb
 replace hE := hE.kept hb
 replace hB := hB.trans (hb.mono hB.size)
 clear hb
 have hr1 := key_o k1
 go_wp2_with (refine wl_value rfl (exec_ldmid rfl isArr32 (by rfl) hr1) ?_)
 refine (hPB _ hE).mono ?_
 rintro x v8 ⟨rfl, hb⟩
 replace k0 := k0.kept hb
 replace k1 := k1.kept hb
 replace k2 := k2.kept hb
 replace g8 := g8.kept hb
 replace gh := gh.kept hb
 replace hE := hE.kept hb
 replace hB := hB.trans (hb.mono hB.size)
 clear hb
 clear hr1
 go_wp2_with fail
 refine (hMD _ hE).mono ?_
 rintro x v9 ⟨rfl, hb⟩
 replace k0 := k0.kept hb
 replace k1 := k1.kept hb
 replace k2 := k2.kept hb
 replace g8 := g8.kept hb
 replace gh := gh.kept hb
 replace hE := hE.kept hb
 replace hB := hB.trans (hb.mono hB.size)
 clear hb
 have hr1 := key_o k1
 go_wp2_with (refine wl_value rfl (exec_ldmid rfl isArr32 (by rfl) hr1) ?_)
 refine (hAC _ hE).mono ?_
 rintro x v10 ⟨rfl, hb⟩
 replace k0 := k0.kept hb
 replace k1 := k1.kept hb
 replace k2 := k2.kept hb
 replace g8 := g8.kept hb
 replace gh := gh.kept hb
 replace hE := hE.kept hb
 replace hB := hB.trans (hb.mono hB.size)
 clear hb
 clear hr1
 have lbk0 := k0.lt
 have lbk1 := k1.lt
 have lbk2 := k2.lt
 have lbg8 := g8.lt
 have lbgh := gh.lt
 have lbB := hB.size
 have lbE := hE.two
 go_wp2_with (refine wl_allocH ?_; intro v11 ga0 hb; refine Hid.out ?_)
 replace k0 := k0.kept hb
 replace k1 := k1.kept hb
 replace k2 := k2.kept hb
 replace g8 := g8.kept hb
 replace gh := gh.kept hb
 replace hE := hE.kept hb
 replace hB := hB.trans (hb.mono hB.size)
 clear hb
 refine Hid.mk ?_
 have lbx := ga0.lt
 have lbg1 := hB.size
 have lbe1 := hE.two
 go_wp2_with (refine wl_alloc12 ?_; intro v12 gt0 hb; refine Hid.out ?_)
 replace k0 := k0.kept hb
 replace k1 := k1.kept hb
 replace k2 := k2.kept hb
 replace g8 := g8.kept hb
 replace gh := gh.kept hb
 replace ga0 := ga0.kept hb
 replace hE := hE.kept hb
 replace hB := hB.trans (hb.mono hB.size)
 clear hb
 refine Hid.mk ?_
 go_wp2_with (refine st_st isHand (hanV_one _ _ _ _ _ _ _) ga0 (by rfl) (by rfl) ?_; intro v13 ga o6; refine Hid.out ?_)
 replace gt0 := gt0.only o6 (by omega)
 replace k0 := k0.only o6 (by omega)
 replace k1 := k1.only o6 (by omega)
 replace k2 := k2.only o6 (by omega)
 replace g8 := g8.only o6 (by omega)
 replace gh := gh.only o6 (by omega)
 replace hE := hE.only o6 (by omega)
 replace hB := hB.trans (o6.below (by omega))
 clear o6
 clear ga0
 refine Hid.mk ?_
 go_wp2_with (refine st_arr isArr12 gt0 (by rfl) (by rfl) ?_; intro v14 gt o6; refine Hid.out ?_)
 replace k0 := k0.only o6 (by omega)
 replace k1 := k1.only o6 (by omega)
 replace k2 := k2.only o6 (by omega)
 replace g8 := g8.only o6 (by omega)
 replace gh := gh.only o6 (by omega)
 replace ga := ga.only o6 (by omega)
 replace hE := hE.only o6 (by omega)
 replace hB := hB.trans (o6.below (by omega))
 clear o6
 clear gt0
 refine Hid.mk ?_
 obtain ⟨b14, hb14⟩ : ∃ x, v10.heap.size = x := ⟨_, rfl⟩
 obtain ⟨b15, hb15⟩ : ∃ x, v11.heap.size = x := ⟨_, rfl⟩
 rw [hb14] at ga lbk0 lbk1 lbk2 lbg8 lbgh lbB lbE lbx ⊢
 rw [hb15] at gt lbx lbg1 lbe1 ⊢
 clear hb14 hb15
 have HPA := Hid.mk hPA
 go_wp2_with fail
 have HK0 : Hid (∀ u, Below v14.heap.size v14 u → SAt u w.heap.size 25 65 (keyV A Ea ia)) := Hid.mk (fun u hu => k0.kept hu)
 have HK1 : Hid (∀ u, Below v14.heap.size v14 u → SAt u (w.heap.size + 1) 25 65 (keyV B Eb ib)) := Hid.mk (fun u hu => k1.kept hu)
 have HG8 : Hid (∀ u, Below v14.heap.size v14 u → ArrAt u b8 .u8 26 12 (stmF ia)) := Hid.mk (fun u hu => g8.kept hu)
 have HEN : Hid (∀ u, Below v14.heap.size v14 u → Env u) := Hid.mk (fun u hu => hE.kept hu)
 have HGA : Hid (∀ u, Below v14.heap.size v14 u → SAt u b14 31 162 (hanV H3 C3 (fun _ => 0) PE PA 0 ia)) := Hid.mk (fun u hu => ga.kept hu)
 have HGT : Hid (∀ u, Below v14.heap.size v14 u → ArrAt u b15 .u8 26 12 (stmF ia)) := Hid.mk (fun u hu => gt.kept hu)
 refine wp_region3 (Below v14.heap.size v14) v14.heap.size
   ([] : List (Nat × Cont))
   [kv (.int .i64 0), kv (.bool false), kv (.bool false), kv (.pointer (some ⟨b14, 128, none⟩)), kv (.agg (WA .u8 32 PA)), kv (.pointer (some ⟨w.heap.size, 0, none⟩)), kv (.agg (WA .u8 32 A)), kv (.agg (WA .u8 32 PA)), kv (.bool false), kv (.bool false), kv (.bool false), kv (.agg (WA .u8 12 (stmF ia))), kv (.agg (WA .u8 12 (stmF ia))), kv (.bool false), kv (.bool false), kv (.bool false), kv (.pointer (some ⟨b14, 161, none⟩)), kv (.int .u32 ia), kv (.pointer (some ⟨w.heap.size, 64, none⟩)), kv (.int .u32 ia), kv (.bool false), kv (.bool false)]
   [.none, .none, .none, .none, .none, .none, .none, .none, .none, .none, .none, .none, .none, .none, .none, .none, .none, .none, .none, .none, .none, .none]
   [some 86, some 87, some 88, some 89, some 90, some 91, some 92, some 93, some 94, some 95, some 96, some 97, some 98, some 99, some 100, some 101, some 102, some 103, some 104, some 105, some 106, some 107]
   [(16, .int .i64 0), (14, .pointer (some ⟨b14, 0, none⟩)), (3, .pointer (some ⟨w.heap.size, 0, none⟩)), (15, .pointer (some ⟨b15, 0, none⟩)), (8, .pointer (some ⟨b8, 0, none⟩))]
   [[], [.slot 0], [.slot 1], [.slot 2], [.slot 2, .slot 3], [.slot 2], [.slot 2, .slot 5], [.slot 2, .slot 6], [.slot 2, .slot 4, .slot 7], [.slot 2, .slot 8], [.slot 9], [.slot 10], [.slot 10], [.slot 10, .slot 11, .slot 12], [.slot 10, .slot 13], [.slot 14], [.slot 15], [.slot 15, .slot 16], [.slot 15], [.slot 15, .slot 18], [.slot 15, .slot 17, .slot 19], [.slot 15, .slot 20]]
   [.slot 21] [86, 87, 88, 89, 90, 91, 92, 93, 94, 95, 96, 97, 98, 99, 100, 101, 102, 103, 104, 105, 106, 107]
   rfl (by kernel_rfl) ⟨rfl, rfl, rfl, rfl, rfl, trivial⟩ (Below.refl _ v14).drew (Nat.le_refl _) trivial trivial (below_G (Nat.le_refl _) trivial)
   ⟨
    (fun Q aq ww own hS hBg fr kn => .inl ⟨trivial, fun K hK => wp_value (exec_move rfl fr.1) (hK _ _ ⟨Touch.refl _ _, rfl⟩)⟩),
    (fun Q aq ww own hS hBg fr kn => .inl ⟨trivial, fun K hK => wp_value (exec_bin2 (V := .bool false) rfl kn.1 rfl rfl (by simp [go_sem])) (hK _ _ ⟨Touch.refl _ _, rfl⟩)⟩),
    (fun Q aq ww own hS hBg fr kn => .inl ⟨trivial, fun K hK => wp_value (exec_move rfl kn.1) (hK _ _ ⟨Touch.refl _ _, rfl⟩)⟩),
    (fun Q aq ww own hS hBg fr kn => .inl ⟨kn.1, fun K hK => wp_value (exec_fh4 rfl fr.2.1) (hK _ _ ⟨Touch.refl _ _, rfl⟩)⟩),
    (fun Q aq ww own hS hBg fr kn => .inl ⟨kn.1, fun K hK => wp_value (exec_ldmid rfl isArr32 kn.2.1 (han_p (HGA.out ww hS))) (hK _ _ ⟨Touch.refl _ _, rfl⟩)⟩),
    (fun Q aq ww own hS hBg fr kn => .inl ⟨kn.1, fun K hK => wp_value (exec_fky (k := 0) rfl fr.2.2.1 (by decide)) (hK _ _ ⟨Touch.refl _ _, rfl⟩)⟩),
    (fun Q aq ww own hS hBg fr kn => .inl ⟨kn.1, fun K hK => wp_value (exec_ldmid rfl isArr32 kn.2.1 (key_o (HK0.out ww hS))) (hK _ _ ⟨Touch.refl _ _, rfl⟩)⟩),
    (fun Q aq ww own hS hBg fr kn => .inl ⟨kn.1, fun K hK => stepc enterPub rfl (args1 kn.2.1) (HPA.out ww (HEN.out ww hS)) (fun w' hb => hK _ _ ⟨touch_below hb, rfl⟩)⟩),
    (fun Q aq ww own hS hBg fr kn => .inl ⟨kn.1, fun K hK => wp_value (neq_WA rfl Tryz.underlying22 eqG32m kn.2.1 kn.2.2.1) (hK _ _ ⟨Touch.refl _ _, rfl⟩)⟩),
    (fun Q aq ww own hS hBg fr kn => .inl ⟨trivial, fun K hK => wp_value (exec_pickF rfl kn.1 kn.2.1) (hK _ _ ⟨Touch.refl _ _, rfl⟩)⟩),
    (fun Q aq ww own hS hBg fr kn => .inl ⟨trivial, fun K hK => wp_value (exec_move rfl kn.1) (hK _ _ ⟨Touch.refl _ _, rfl⟩)⟩),
    (fun Q aq ww own hS hBg fr kn => .inl ⟨kn.1, fun K hK => wp_value (look_arr rfl isArr12 (HGT.out ww hS) fr.2.2.2.1) (hK _ _ ⟨Touch.refl _ _, rfl⟩)⟩),
    (fun Q aq ww own hS hBg fr kn => .inl ⟨kn.1, fun K hK => wp_value (look_arr rfl isArr12 (HG8.out ww hS) fr.2.2.2.2.1) (hK _ _ ⟨Touch.refl _ _, rfl⟩)⟩),
    (fun Q aq ww own hS hBg fr kn => .inl ⟨kn.1, fun K hK => wp_value (neq_WA rfl Tryz.underlying26 eqG12n kn.2.1 kn.2.2.1) (hK _ _ ⟨Touch.refl _ _, rfl⟩)⟩),
    (fun Q aq ww own hS hBg fr kn => .inl ⟨trivial, fun K hK => wp_value (exec_pickF rfl kn.1 kn.2.1) (hK _ _ ⟨Touch.refl _ _, rfl⟩)⟩),
    (fun Q aq ww own hS hBg fr kn => .inl ⟨trivial, fun K hK => wp_value (exec_move rfl kn.1) (hK _ _ ⟨Touch.refl _ _, rfl⟩)⟩),
    (fun Q aq ww own hS hBg fr kn => .inl ⟨kn.1, fun K hK => wp_value (exec_fh6 rfl fr.2.1) (hK _ _ ⟨Touch.refl _ _, rfl⟩)⟩),
    (fun Q aq ww own hS hBg fr kn => .inl ⟨kn.1, fun K hK => wp_value (exec_ld rfl kn.2.1 (run_load32 (han_f (HGA.out ww hS)))) (hK _ _ ⟨Touch.refl _ _, rfl⟩)⟩),
    (fun Q aq ww own hS hBg fr kn => .inl ⟨kn.1, fun K hK => wp_value (exec_fky (k := 2) rfl fr.2.2.1 (by decide)) (hK _ _ ⟨Touch.refl _ _, rfl⟩)⟩),
    (fun Q aq ww own hS hBg fr kn => .inl ⟨kn.1, fun K hK => wp_value (exec_ld rfl kn.2.1 (run_load32 (key_i (HK0.out ww hS)))) (hK _ _ ⟨Touch.refl _ _, rfl⟩)⟩),
    (fun Q aq ww own hS hBg fr kn => .inl ⟨kn.1, fun K hK => wp_value (exec_bin2 (V := .bool false) rfl kn.2.1 kn.2.2.1 rfl (by simp [go_sem])) (hK _ _ ⟨Touch.refl _ _, rfl⟩)⟩),
    (fun Q aq ww own hS hBg fr kn => .inl ⟨trivial, fun K hK => wp_value (exec_pickF rfl kn.1 kn.2.1) (hK _ _ ⟨Touch.refl _ _, rfl⟩)⟩),
    trivial⟩ ?_
 intro vs2 own2 v15 hb hs1 kn inj
 clear inj hs1 HK0 HK1 HG8 HEN HGA HGT
 have e107 : vs2 107 = _ := kn.1
 clear kn
 replace k0 := k0.kept hb
 replace k1 := k1.kept hb
 replace k2 := k2.kept hb
 replace g8 := g8.kept hb
 replace gh := gh.kept hb
 replace ga := ga.kept hb
 replace gt := gt.kept hb
 replace hE := hE.kept hb
 replace hB := hB.trans (hb.mono hB.size)
 clear hb
 simp only [putAll, Act.put, List.setIfInBounds_toArray, List.set_cons_zero, List.set_cons_succ, e107]
 have hr0 := sha_s k2
 have hr1 := key_e k1
 have hci := key_i k1
 go_wp2_with (first | (refine wl_value rfl (look_st rfl isHand ga (by rfl)) ?_) | (refine wl_value rfl (exec_ldmid rfl isArr32 (by rfl) hr0) ?_) | (refine wl_value rfl (exec_ldmid rfl isArr32 (by rfl) hr1) ?_))
 refine (hAN _ hE).mono ?_
 rintro x v16 ⟨rfl, hb⟩
 replace k0 := k0.kept hb
 replace k1 := k1.kept hb
 replace k2 := k2.kept hb
 replace g8 := g8.kept hb
 replace gh := gh.kept hb
 replace ga := ga.kept hb
 replace gt := gt.kept hb
 replace hE := hE.kept hb
 replace hB := hB.trans (hb.mono hB.size)
 clear hb
 clear hr0 hr1 hci
 have lck0 := k0.lt
 have lck1 := k1.lt
 have lck2 := k2.lt
 have lcg8 := g8.lt
 have lcgh := gh.lt
 have lcga := ga.lt
 have lcgt := gt.lt
 have lcB := hB.size
 have lcE := hE.two
 go_wp2_with (refine wl_allocP ?_; intro v17 gp0 hb; refine Hid.out ?_)
 replace k0 := k0.kept hb
 replace k1 := k1.kept hb
 replace k2 := k2.kept hb
 replace g8 := g8.kept hb
 replace gh := gh.kept hb
 replace ga := ga.kept hb
 replace gt := gt.kept hb
 replace hE := hE.kept hb
 replace hB := hB.trans (hb.mono hB.size)
 clear hb
 refine Hid.mk ?_
 go_wp2_with (refine st_st isPair (paiV_one _ _ _ _) gp0 (by rfl) (by rfl) ?_; intro v18 gp o6; refine Hid.out ?_)
 replace k0 := k0.only o6 (by omega)
 replace k1 := k1.only o6 (by omega)
 replace k2 := k2.only o6 (by omega)
 replace g8 := g8.only o6 (by omega)
 replace gh := gh.only o6 (by omega)
 replace ga := ga.only o6 (by omega)
 replace gt := gt.only o6 (by omega)
 replace hE := hE.only o6 (by omega)
 replace hB := hB.trans (o6.below (by omega))
 clear o6
 clear gp0
 refine Hid.mk ?_
 obtain ⟨b18, hb18⟩ : ∃ x, v16.heap.size = x := ⟨_, rfl⟩
 rw [hb18] at gp lck0 lck1 lck2 lcg8 lcgh lcga lcgt lcB lcE ⊢
 clear hb18
 have hr0 := key_o k0
 go_wp2_with (refine wl_value rfl (exec_ldmid rfl isArr32 (by rfl) hr0) ?_)
 refine (hPA _ hE).mono ?_
 rintro x v19 ⟨rfl, hb⟩
 replace k0 := k0.kept hb
 replace k1 := k1.kept hb
 replace k2 := k2.kept hb
 replace g8 := g8.kept hb
 replace gh := gh.kept hb
 replace ga := ga.kept hb
 replace gt := gt.kept hb
 replace gp := gp.kept hb
 replace hE := hE.kept hb
 replace hB := hB.trans (hb.mono hB.size)
 clear hb
 clear hr0
 go_wp2_with fail
 refine (hM2 _ hE).mono ?_
 rintro x v20 ⟨rfl, hb⟩
 replace k0 := k0.kept hb
 replace k1 := k1.kept hb
 replace k2 := k2.kept hb
 replace g8 := g8.kept hb
 replace gh := gh.kept hb
 replace ga := ga.kept hb
 replace gt := gt.kept hb
 replace gp := gp.kept hb
 replace hE := hE.kept hb
 replace hB := hB.trans (hb.mono hB.size)
 clear hb
 have hr0 := key_o k0
 have hr1 := sha_s k2
 go_wp2_with (first | (refine wl_value rfl (look_st rfl isHand gh (by rfl)) ?_) | (refine wl_value rfl (exec_ldmid rfl isArr32 (by rfl) hr0) ?_) | (refine wl_value rfl (exec_ldmid rfl isArr32 (by rfl) hr1) ?_))
 refine (hFI _ hE).mono ?_
 rintro x v21 ⟨rfl, hb⟩
 replace k0 := k0.kept hb
 replace k1 := k1.kept hb
 replace k2 := k2.kept hb
 replace g8 := g8.kept hb
 replace gh := gh.kept hb
 replace ga := ga.kept hb
 replace gt := gt.kept hb
 replace gp := gp.kept hb
 replace hE := hE.kept hb
 replace hB := hB.trans (hb.mono hB.size)
 clear hb
 clear hr0 hr1
 have ldk0 := k0.lt
 have ldk1 := k1.lt
 have ldk2 := k2.lt
 have ldg8 := g8.lt
 have ldgh := gh.lt
 have ldga := ga.lt
 have ldgt := gt.lt
 have ldgp := gp.lt
 have ldB := hB.size
 have ldE := hE.two
 go_wp2_with (refine wl_allocP ?_; intro v22 gq0 hb; refine Hid.out ?_)
 replace k0 := k0.kept hb
 replace k1 := k1.kept hb
 replace k2 := k2.kept hb
 replace g8 := g8.kept hb
 replace gh := gh.kept hb
 replace ga := ga.kept hb
 replace gt := gt.kept hb
 replace gp := gp.kept hb
 replace hE := hE.kept hb
 replace hB := hB.trans (hb.mono hB.size)
 clear hb
 refine Hid.mk ?_
 go_wp2_with (refine st_st isPair (paiV_one _ _ _ _) gq0 (by rfl) (by rfl) ?_; intro v23 gq o6; refine Hid.out ?_)
 replace k0 := k0.only o6 (by omega)
 replace k1 := k1.only o6 (by omega)
 replace k2 := k2.only o6 (by omega)
 replace g8 := g8.only o6 (by omega)
 replace gh := gh.only o6 (by omega)
 replace ga := ga.only o6 (by omega)
 replace gt := gt.only o6 (by omega)
 replace gp := gp.only o6 (by omega)
 replace hE := hE.only o6 (by omega)
 replace hB := hB.trans (o6.below (by omega))
 clear o6
 clear gq0
 refine Hid.mk ?_
 obtain ⟨b22, hb22⟩ : ∃ x, v21.heap.size = x := ⟨_, rfl⟩
 rw [hb22] at gq ldk0 ldk1 ldk2 ldg8 ldgh ldga ldgt ldgp ldB ldE ⊢
 clear hb22
 have p0 := pai_s gp
 have p1 := pai_r gp
 have p2 := pai_l gp
 have p3 := pai_f gp
 have q0 := pai_s gq
 have q1 := pai_r gq
 have q2 := pai_l gq
 have q3 := pai_f gq
 have i0 := key_i k0
 have i1 := key_i k1
 go_wp2_with (first | (refine wl_value rfl (exec_ldmid rfl isArr32 (by rfl) p0) ?_) | (refine wl_value rfl (exec_ldmid rfl isArr32 (by rfl) p1) ?_) | (refine wl_value rfl (exec_ldmid rfl isArr32 (by rfl) q0) ?_) | (refine wl_value rfl (exec_ldmid rfl isArr32 (by rfl) q1) ?_) | (refine wl_value rfl (eql_WA rfl Tryz.underlying22 eqG32m (by rfl) (by rfl)) ?_))
 go_ret
 exact ⟨rfl, hB⟩
 
theorem meets_walk (A B Ea Eb S : Nat → Int) (ia ib : Int) (msg : ByteArray) (w : World) (hE : Env w) (hA : Byts 32 A) (hB : Byts 32 B) (hEa : Byts 32 Ea) (hEb : Byts 32 Eb) (hS : Byts 32 S) (hia : W32 ia) (hib : W32 ib) :
  Calls Tryz.prog 5 #[.agg (SC 65 (keyV A Ea ia)), .agg (SC 65 (keyV B Eb ib)), .agg (SC 33 (shaV msg S))] w fun e w' => e = .returned (.bool true) ∧ Below w.heap.size w w' := by
 have hT := stmF_b ia 12
 have cB := fun u hu => Begin_all A (pubF B) Ea (stmF ia) ia u hu hA (pubF_b B 32) hEa hT
 have cA := fun m u hu => Accept_all B m u hu hB
 have b0 := begH_b (pubF B) 32
 have b1 := begC_b 32
 generalize begH (pubF B) = H0 at *
 generalize begC = C0 at *
 unfold BeginR at cB
 rw [if_pos ⟨sh_nz Ea B, sh_nz A B⟩] at cB
 have hms := begM_size A (pubF B) Ea (stmF ia) H0 C0 ia
 have hm := accept_meets A B Ea (stmF ia) H0 C0 ia
 change ∀ u, Env u → Calls Tryz.prog 9 _ u fun e w' => e = .returned (.tuple #[.string (begM A (pubF B) Ea (stmF ia) H0 C0 ia), _, _]) ∧ _ at cB
 generalize begM A (pubF B) Ea (stmF ia) H0 C0 ia = MS at *
 have hH3 : Byts 32 (bgH3 A (pubF B) Ea (stmF ia) H0 C0) := mixH_b _ _ 32
 have hC3 : Byts 32 (bgL2 A (pubF B) Ea C0 0) := chn_b _ _ 0 32
 generalize bgH3 A (pubF B) Ea (stmF ia) H0 C0 = H3 at *
 generalize bgL2 A (pubF B) Ea C0 0 = C3 at *
 have cN := fun u hu => Answer_all H3 C3 (fun _ => 0) (pubF Ea) (pubF A) S Eb 0 ia ib u hu hH3 hC3 (pubF_b Ea 32) (pubF_b A 32) hS hEb
 unfold AnswerR at cN
 rw [if_pos ⟨sh_nz Eb Ea, sh_nz Eb A⟩] at cN
 have hns := ansM_size H3 C3 (pubF Ea) (pubF A) S Eb ia ib
 have hf := finish_meets A Ea H3 C3 S Eb ia ib
 change ∀ u, Env u → Calls Tryz.prog 13 _ u fun e w' => e = .returned (.tuple #[.string (ansM H3 C3 (pubF Ea) (pubF A) S Eb ia ib), _, _]) ∧ _ at cN
 generalize ansM H3 C3 (pubF Ea) (pubF A) S Eb ia ib = MN at *
 generalize anN C3 (pubF Ea) (pubF A) S Eb = N at *
 have nil0 : (⟨#[]⟩ : ByteArray).size = 0 ∨ (⟨#[]⟩ : ByteArray).size = 16 := .inl rfl
 have e1 : MarkR MS (pubF B) ⟨#[]⟩ = (marksT MS (pubF B) ⟨#[]⟩, 0) := by unfold MarkR; rw [if_neg (not_not_intro (.inl hms)), if_neg (not_not_intro nil0)]
 have e2 : MarkR MN (pubF A) ⟨#[]⟩ = (marksT MN (pubF A) ⟨#[]⟩, 0) := by unfold MarkR; rw [if_neg (not_not_intro (.inr hns)), if_neg (not_not_intro nil0)]
 have c1 := fun u hu => Mark_all MS (pubF B) ⟨#[]⟩ u hu (pubF_b B 32)
 have c2 := fun u hu => Mark_all MN (pubF A) ⟨#[]⟩ u hu (pubF_b A 32)
 rw [e1] at c1
 rw [e2] at c2
 have s1 : (marksT MS (pubF B) ⟨#[]⟩).size = 148 := by rw [marksT_size _ _ _ nil0, hms]
 have s2 : (marksT MN (pubF A) ⟨#[]⟩).size = 92 := by rw [marksT_size _ _ _ nil0, hns]
 have d1 := fun u hu => Marked_run (marksT MS (pubF B) ⟨#[]⟩) (pubF B) u hu (pubF_b B 32)
 rw [marks_marked MS (pubF B) ⟨#[]⟩ nil0 (.inl hms)] at d1
 have hA1 := hm (mrkT MS (pubF B) ++ sndT MS (pubF B) ⟨#[]⟩) (by rw [ByteArray.size_append, mrkT_size, sndT_size _ _ _ nil0]) hT hia
 rw [← ByteArray.append_assoc, ← marksT_eq] at hA1
 have cA1 := cA (marksT MS (pubF B) ⟨#[]⟩)
 rw [hA1] at cA1
 have hF1 := hf (mrkT MN (pubF A) ++ sndT MN (pubF A) ⟨#[]⟩) (by rw [ByteArray.size_append, mrkT_size, sndT_size _ _ _ nil0]) hia hib
 rw [← ByteArray.append_assoc, ← marksT_eq] at hF1
 have cF := fun u hu => Finish_all A H3 C3 Ea (fun _ => 0) (pubF B) S ia 0 (marksT MN (pubF A) ⟨#[]⟩) u hu hA hH3 hC3 hEa hS
 rw [hF1] at cF
 exact meets_gen A B Ea Eb S (pubF A) (pubF B) (pubF Ea) H3 C3 (N 0) (N 1) ia ib msg MS _ MN _ w hE hia s1 s2 (fun u hu => Public_run A u hu.2 hA) (fun u hu => Public_run B u hu.2 hB) cB c1 d1 cA1 cN c2 cF
end Go.Proofs.YthghcjepdhkfdaaGreatDoor

/-
  Own text. A slice of texts as an argument, and what the bound on its bulk gives.
-/
namespace Go.Proofs.YthghcjepdhkfdaaGreatDoor
open Go.ChangeShapes Go.WideShapes Go.ChangeAt Go.WideMaps Go.WideElems Go.RowKit Go.Proofs Go.Lib
set_option maxRecDepth 100000
end Go.Proofs.YthghcjepdhkfdaaGreatDoor

/-
  Own text. Arguments that are structs of arrays of bytes, texts and numbers.
-/
namespace Go.Proofs.YthghcjepdhkfdaaGreatDoor
open Go.ChangeShapes Go.WideShapes Go.ChangeAt Go.WideMaps Go.WideElems Go.RowKit Go.Proofs
set_option maxRecDepth 100000
theorem part_at {cs L : List Value} {o m : Nat} (h : (cs.drop o).take m = L) (j : Nat) (hj : j < m) : cs[o + j]? = L[j]? := by
 rw [← h, List.getElem?_take, if_pos hj, List.getElem?_drop]
theorem trod_byts {H : Type} {enc : TypeId × Value → H} {W : World} {base fuel : Nat} {sp : Nat → Bool} {hd : Bool} {t : TypeId} {n : Nat} {cs : List Value} {x : DataW H × List MemPlace} (ht : Tryz.prog.underlying t = some (.array n 5))
  (h : DataW.trod enc Tryz.prog W base sp hd fuel t cs = some x) (hn : cs.length = n) : ∃ s, Byts n s ∧ cs = nums .u8 n s ∧ x.2 = [] := by
 obtain ⟨xs, m, _, hx, _, hl, hel⟩ := DataW.trod_array ht h
 have key : ∀ i, i < n → ∃ k : Int, cs[i]? = some (.int .u8 k) ∧ (0 ≤ k ∧ k < 256) ∧ ∃ dd, xs[i]? = some (dd, []) := fun i hi => by
  have hi' := hel i hi
  rw [cells5] at hi'
  have hxs : i < xs.length := by omega
  rw [List.getElem?_eq_getElem hxs] at hi'
  obtain ⟨k, e1, e2, wk⟩ := DataW.trod_int Tryz.underlying5 hi'
  have e3 := part_at e1 0 (by omega)
  have := bounds_u8 wk
  refine ⟨k, by simpa using e3, by omega, ⟨_, by rw [List.getElem?_eq_getElem hxs, e2]⟩⟩
 refine ⟨fun i => match cs[i]? with | some (.int .u8 k) => k | _ => 0, fun i hi => ?_, ?_, ?_⟩
 ·obtain ⟨k, e, hb, _⟩ := key i hi
  simp only [e]
  exact hb
 ·refine List.ext_getElem? (fun i => ?_)
  by_cases hi : i < n
  ·obtain ⟨k, e, hb, _⟩ := key i hi
   rw [nums_at .u8 n _ hi]
   simp only [e]
  ·rw [List.getElem?_eq_none (by omega), List.getElem?_eq_none (by rw [nums_len]; omega)]
 ·rw [hx]
  apply List.flatMap_eq_nil_iff.2
  intro y hxm
  obtain ⟨i, hi, rfl⟩ := List.getElem_of_mem hxm
  obtain ⟨_, _, _, dd, e⟩ := key i (by omega)
  rw [List.getElem?_eq_getElem hi] at e
  rw [Option.some.inj e]
end Go.Proofs.YthghcjepdhkfdaaGreatDoor

/-
  Own text. Arguments that are an end's keys, or a message with a shared key.
-/
namespace Go.Proofs.YthghcjepdhkfdaaGreatDoor
open Go.ChangeShapes Go.WideShapes Go.ChangeAt Go.WideMaps Go.WideElems Go.RowKit Go.Proofs
set_option maxRecDepth 100000
theorem cells32n : Tryz.prog.cellsOf 22 = 32 := by kernel_rfl
theorem cellsU32n : Tryz.prog.cellsOf 23 = 1 := by kernel_rfl
theorem cellsStr8 : Tryz.prog.cellsOf 9 = 1 := by kernel_rfl
theorem key_rec : Tryz.prog.readableRec 25 = true := by kernel_rfl
theorem key_row : 25 < Tryz.prog.types.size := of_decide_eq_true (by kernel_rfl)
theorem key_cells : Tryz.prog.cellsOf 25 = 65 := by kernel_rfl
theorem sha_rec : Tryz.prog.readableRec 39 = true := by kernel_rfl
theorem sha_row : 39 < Tryz.prog.types.size := of_decide_eq_true (by kernel_rfl)
theorem sha_cells : Tryz.prog.cellsOf 39 = 33 := by kernel_rfl
theorem SC_ext {n : Nat} {cs : Array Value} {V : Nat → Value} (hs : cs.size = n) (h : ∀ i, i < n → cs.toList[i]? = some (V i)) : cs = SC n V := by
 apply Array.ext_getElem?
 intro i
 by_cases hi : i < n
 ·rw [← Array.getElem?_toList, h i hi, SC_get n V i hi]
 ·rw [Array.getElem?_eq_none (by omega), Array.getElem?_eq_none (by rw [SC_size]; omega)]
theorem one_at {cs : List Value} {o : Nat} {v : Value} (h : (cs.drop o).take 1 = [v]) : cs[o]? = some v := by
 have := part_at h 0 (by omega)
 simpa using this
theorem key_fields : ∃ f0 f1 f2, Tryz.prog.underlying 25 = some (.struct #[f0, f1, f2]) ∧ f0.type = 22 ∧ f0.offset = 0 ∧ f1.type = 22 ∧ f1.offset = 32 ∧ f2.type = 23 ∧ f2.offset = 64 := ⟨_, _, _, Tryz.underlying25, rfl, rfl, rfl, rfl, rfl, rfl⟩
theorem sha_fields : ∃ f0 f1, Tryz.prog.underlying 39 = some (.struct #[f0, f1]) ∧ f0.type = 9 ∧ f0.offset = 0 ∧ f1.type = 22 ∧ f1.offset = 1 := ⟨_, _, Tryz.underlying39, rfl, rfl, rfl, rfl⟩
section
variable {H : Type} {enc : TypeId × Value → H} {W : World} {base : Nat} {sp : Nat → Bool} {v : Value} {d : DataW H} {p : List MemPlace}
theorem open_key (hv : Value.okWide Tryz.prog W .any base 25 v) (h : DataW.Trod enc Tryz.prog W 0 sp true 25 v d p) : ∃ O E ix, Byts 32 O ∧ Byts 32 E ∧ W32 ix ∧ v = .agg (SC 65 (keyV O E ix)) ∧ p = [] := by
 obtain ⟨f0, f1, f2, hu, t0, o0, t1, o1, t2, o2⟩ := key_fields
 obtain ⟨cs, rfl, hsz, _⟩ : ∃ cs, v = .agg cs ∧ cs.size = Tryz.prog.cellsOf 25 ∧ Row.okWide Tryz.prog W .any base 25 cs := by
  simpa [Value.okWide, hu] using hv
 rw [key_cells] at hsz
 obtain ⟨fuel, hf⟩ := h
 obtain ⟨xs, n, _, hx, _, hlen, hel⟩ := DataW.trod_struct hu hf
 have hcs : (Value.agg cs).cells.toList = cs.toList := rfl
 rw [hcs] at hel
 have hl65 : cs.toList.length = 65 := by simpa using hsz
 match xs, hlen with
 | [y0, y1, y2], _ =>
  have e0 := hel 0 f0 rfl
  have e1 := hel 1 f1 rfl
  have e2 := hel 2 f2 rfl
  rw [t0, o0, cells32n] at e0
  rw [t1, o1, cells32n] at e1
  rw [t2, o2, cellsU32n] at e2
  obtain ⟨O, a0, b0, c0⟩ := trod_byts Tryz.underlying22 e0 (by rw [List.length_take, List.length_drop]; omega)
  obtain ⟨E, a1, b1, c1⟩ := trod_byts Tryz.underlying22 e1 (by rw [List.length_take, List.length_drop]; omega)
  obtain ⟨ix, b2, c2, w2⟩ := DataW.trod_int Tryz.underlying23 e2
  refine ⟨O, E, ix, a0, a1, w32_wf w2, ?_, ?_⟩
  ·congr 1
   refine SC_ext hsz (fun i hi => ?_)
   unfold keyV
   by_cases h1 : i < 32
   ·rw [if_pos h1]
    have := part_at b0 i h1
    rw [Nat.zero_add, nums_at .u8 32 _ h1] at this
    exact this
   ·rw [if_neg h1]
    by_cases h2 : i < 64
    ·rw [if_pos h2]
     have := part_at b1 (i - 32) (by omega)
     rw [show 32 + (i - 32) = i by omega, nums_at .u8 32 _ (by omega)] at this
     exact this
    ·rw [if_neg h2]
     obtain rfl : i = 64 := by omega
     exact one_at b2
  ·simp only [Prod.mk.injEq] at hx
   rw [hx.2]
   simp [c0, c1, c2]
theorem open_sha (hv : Value.okWide Tryz.prog W .any base 39 v) (h : DataW.Trod enc Tryz.prog W 0 sp true 39 v d p) : ∃ m S, Byts 32 S ∧ v = .agg (SC 33 (shaV m S)) ∧ p = [] := by
 obtain ⟨f0, f1, hu, t0, o0, t1, o1⟩ := sha_fields
 obtain ⟨cs, rfl, hsz, _⟩ : ∃ cs, v = .agg cs ∧ cs.size = Tryz.prog.cellsOf 39 ∧ Row.okWide Tryz.prog W .any base 39 cs := by
  simpa [Value.okWide, hu] using hv
 rw [sha_cells] at hsz
 obtain ⟨fuel, hf⟩ := h
 obtain ⟨xs, n, _, hx, _, hlen, hel⟩ := DataW.trod_struct hu hf
 have hcs : (Value.agg cs).cells.toList = cs.toList := rfl
 rw [hcs] at hel
 have hl33 : cs.toList.length = 33 := by simpa using hsz
 match xs, hlen with
 | [y0, y1], _ =>
  have e0 := hel 0 f0 rfl
  have e1 := hel 1 f1 rfl
  rw [t0, o0, cellsStr8] at e0
  rw [t1, o1, cells32n] at e1
  obtain ⟨m, b0, c0, _⟩ := DataW.trod_string Tryz.underlying9 e0
  obtain ⟨S, a1, b1, c1⟩ := trod_byts Tryz.underlying22 e1 (by rw [List.length_take, List.length_drop]; omega)
  refine ⟨m, S, a1, ?_, ?_⟩
  ·congr 1
   refine SC_ext hsz (fun i hi => ?_)
   unfold shaV
   by_cases h1 : i < 1
   ·rw [if_pos h1]
    obtain rfl : i = 0 := by omega
    exact one_at b0
   ·rw [if_neg h1]
    have := part_at b1 (i - 1) (by omega)
    rw [show 1 + (i - 1) = i by omega, nums_at .u8 32 _ (by omega)] at this
    exact this
  ·simp only [Prod.mk.injEq] at hx
   rw [hx.2]
   simp [c0, c1]
end
end Go.Proofs.YthghcjepdhkfdaaGreatDoor

