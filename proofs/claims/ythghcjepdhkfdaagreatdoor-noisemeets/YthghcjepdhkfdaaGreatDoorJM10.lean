/-
  Own text. Package noise: the steps of reading the first message.
-/
import Derived.Test.YthghcjepdhkfdaaGreatDoorJM9
import Derived.Test.YthghcjepdhkfdaaGreatDoorJM1
import Derived.Test.YthghcjepdhkfdaaGreatDoorJM8
import Derived.Test.YthghcjepdhkfdaaGreatDoorJM2
namespace Go.Proofs.YthghcjepdhkfdaaGreatDoor
open Go.RowKit Go.Proofs
set_option maxRecDepth 100000
theorem open_size {key nonce : Nat → Int} {box beside : ByteArray} (h : (openT key nonce box beside).2 = 0) : (openT key nonce box beside).1.size = box.size - 16 := by
 unfold openT at h ⊢
 split at h
 ·rename_i hc
  rw [if_pos hc]
  show (underT key nonce (box.extract 0 (box.size - 16))).size = _
  unfold underT
  rw [mkS_size, ByteArray.size_extract]
  omega
 ·exact absurd h (by decide)
theorem zero12c (w : World) : (zeroValue 26).run Tryz.prog w = .ok (.agg (WA .u8 12 fun _ => 0)) w := by kernel_rfl
theorem wl_alloc12 {ops : Array Oper} {rest : List Oper} {d : Option Tmp} {t : TypeId} {ps : String} {af : Array Edge} {a : Act} {w : World} {Q : Exit → Act → World → Prop}
  (h : ∀ w', ArrAt w' w.heap.size .u8 26 12 (fun _ => 0) → Below w.heap.size w w' → wpList Tryz.prog ops Q rest (a.put d (.pointer (some ⟨w.heap.size, 0, none⟩))) w') :
  wpList Tryz.prog ops Q ({ dst := d, op := .alloc 26, type := t, pos := ps, after := af, guard := none } :: rest) a w :=
 wl_act rfl (act_alloc zero12c rfl (fun w' hb hg => h w' hg hb))
set_option linter.unusedVariables false in
set_option maxHeartbeats 4000000 in
set_option maxRecDepth 100000 in
theorem accept_form (O H0 C0 : Nat → Int) (m : ByteArray) (w : World) (hE : Env w) (hO : Byts 32 O) (hC0 : Byts 32 C0) (hH0 : Byts 32 H0) (hm : ¬ (m.size = 148 ∧ numA m 0 4 = 1))
  (hBeg : ∀ u, Env u → Calls Tryz.prog 78 #[.agg (WA .u8 32 (pubF O))] u fun e w' => ∃ b, u.heap.size ≤ b ∧ e = .returned (.pointer (some ⟨b, 0, none⟩)) ∧ KtAt w' b H0 C0 (fun _ => 0) ∧ Below u.heap.size u w') :
  Calls Tryz.prog 46 #[.agg (WA .u8 32 O), .string m] w fun e w' => e = gup (if m.size = 148 then 11 else 10) ∧ Below w.heap.size w w' := by
 have g0 : ArrAt (((w.alloc (.cells (WA .u8 32 O) 22)).alloc (.cells Tryz.zeroCells31 31)).alloc (.cells (WA .u8 12 (fun _ => 0)) 26)) w.heap.size .u8 22 32 O := heap_a31 w _ _ _
 have gH : SAt (((w.alloc (.cells (WA .u8 32 O) 22)).alloc (.cells Tryz.zeroCells31 31)).alloc (.cells (WA .u8 12 (fun _ => 0)) 26)) (w.heap.size + 1) 31 162 hanZ := by
  have h := heap_a32 w (.cells (WA .u8 32 O) 22) (.cells Tryz.zeroCells31 31) (.cells (WA .u8 12 (fun _ => 0)) 26)
  unfold SAt
  rw [← zeroHand]
  exact h
 have gS : ArrAt (((w.alloc (.cells (WA .u8 32 O) 22)).alloc (.cells Tryz.zeroCells31 31)).alloc (.cells (WA .u8 12 (fun _ => 0)) 26)) (w.heap.size + 1 + 1) .u8 26 12 (fun _ => 0) := heap_a3 w _ _ _
 have hB : Below w.heap.size w (((w.alloc (.cells (WA .u8 32 O) 22)).alloc (.cells Tryz.zeroCells31 31)).alloc (.cells (WA .u8 12 (fun _ => 0)) 26)) := (((Below.refl _ w).alloc (by simp) _).alloc (by simp) _).alloc (by simp; omega) _
 replace hE := hE.kept hB
 go_enter Tryz.func46, Tryz.ntmps46
 go_wp2_with fail
 refine (iniOf_no m _ hm).mono ?_
 rintro x v1 ⟨rfl, hb⟩
 exact ⟨rfl, rfl, hB.trans (hb.mono hB.size)⟩
set_option linter.unusedVariables false in
set_option maxHeartbeats 4000000 in
set_option maxRecDepth 100000 in
theorem accept_z1 (O H0 C0 : Nat → Int) (m : ByteArray) (w : World) (hE : Env w) (hO : Byts 32 O) (hC0 : Byts 32 C0) (hH0 : Byts 32 H0) (hm : m.size = 148) (hk : numA m 0 4 = 1) (hz1 : shZ O (acE m) = false)
  (hBeg : ∀ u, Env u → Calls Tryz.prog 78 #[.agg (WA .u8 32 (pubF O))] u fun e w' => ∃ b, u.heap.size ≤ b ∧ e = .returned (.pointer (some ⟨b, 0, none⟩)) ∧ KtAt w' b H0 C0 (fun _ => 0) ∧ Below u.heap.size u w') :
  Calls Tryz.prog 46 #[.agg (WA .u8 32 O), .string m] w fun e w' => e = gup 18 ∧ Below w.heap.size w w' := by
 have g0 : ArrAt (((w.alloc (.cells (WA .u8 32 O) 22)).alloc (.cells Tryz.zeroCells31 31)).alloc (.cells (WA .u8 12 (fun _ => 0)) 26)) w.heap.size .u8 22 32 O := heap_a31 w _ _ _
 have gH : SAt (((w.alloc (.cells (WA .u8 32 O) 22)).alloc (.cells Tryz.zeroCells31 31)).alloc (.cells (WA .u8 12 (fun _ => 0)) 26)) (w.heap.size + 1) 31 162 hanZ := by
  have h := heap_a32 w (.cells (WA .u8 32 O) 22) (.cells Tryz.zeroCells31 31) (.cells (WA .u8 12 (fun _ => 0)) 26)
  unfold SAt
  rw [← zeroHand]
  exact h
 have gS : ArrAt (((w.alloc (.cells (WA .u8 32 O) 22)).alloc (.cells Tryz.zeroCells31 31)).alloc (.cells (WA .u8 12 (fun _ => 0)) 26)) (w.heap.size + 1 + 1) .u8 26 12 (fun _ => 0) := heap_a3 w _ _ _
 have hB : Below w.heap.size w (((w.alloc (.cells (WA .u8 32 O) 22)).alloc (.cells Tryz.zeroCells31 31)).alloc (.cells (WA .u8 12 (fun _ => 0)) 26)) := (((Below.refl _ w).alloc (by simp) _).alloc (by simp) _).alloc (by simp; omega) _
 replace hE := hE.kept hB
 go_enter Tryz.func46, Tryz.ntmps46
 go_wp2_with fail
 refine (iniOf_ok m _ hm hk).mono ?_
 rintro x v1 ⟨rfl, hb⟩
 replace g0 := g0.kept hb
 replace gH := gH.kept hb
 replace gS := gS.kept hb
 replace hE := hE.kept hb
 replace hB := hB.trans (hb.mono hB.size)
 clear hb
 
 have hes : (m.extract 8 40).size = 32 := by rw [ByteArray.size_extract]; omega
 have hks : (m.extract 40 88).size = 48 := by rw [ByteArray.size_extract]; omega
 have hsx : (m.extract 88 116).size = 28 := by rw [ByteArray.size_extract]; omega
 obtain ⟨E, hEe⟩ : ∃ X, txt (m.extract 8 40) = X := ⟨_, rfl⟩
 have hEb : Byts 32 E := fun j _ => hEe ▸ txt_b _ j
 have hem : mkS 32 E = m.extract 8 40 := by rw [← hEe, ← hes]; exact mkS_txt _
 obtain ⟨kx, hkx⟩ : ∃ X, m.extract 40 88 = X := ⟨_, rfl⟩
 obtain ⟨sx, hsxe⟩ : ∃ X, m.extract 88 116 = X := ⟨_, rfl⟩
 obtain ⟨n4, hn4⟩ : ∃ X, numA m 4 4 = X := ⟨_, rfl⟩
 rw [hEe, hkx, hsxe, hn4]
 rw [hkx] at hks
 rw [hsxe] at hsx
 have lag0 := g0.lt
 have lagH := gH.lt
 have lagS := gS.lt
 have laB := hB.size
 have laE := hE.two
 
 go_wp2_with (refine wl_allocI ?_; intro v2 gi0 hb; refine Hid.out ?_)
 replace g0 := g0.kept hb
 replace gH := gH.kept hb
 replace gS := gS.kept hb
 replace hE := hE.kept hb
 replace hB := hB.trans (hb.mono hB.size)
 clear hb
 
 refine Hid.mk ?_
 go_wp2_with (refine st_st is_ini (iniV_one _ _ _ _) gi0 (by rfl) (by rfl) ?_; intro v3 gi o6; refine Hid.out ?_)
 replace g0 := g0.only o6 (by omega)
 replace gH := gH.only o6 (by omega)
 replace gS := gS.only o6 (by omega)
 replace hE := hE.only o6 (by omega)
 replace hB := hB.trans (o6.below (by omega))
 clear o6
 
 clear gi0
 refine Hid.mk ?_
 obtain ⟨bi, hbi⟩ : ∃ bi, v1.heap.size = bi := ⟨_, rfl⟩
 rw [hbi] at gi lag0 lagH lagS laB laE ⊢
 clear hbi
 have HP := Hid.mk hE.2
 go_wp2_with (refine ld_arr isArr32 g0 (by rfl) ?_)
 refine (Public_run O _ HP.out hO).mono ?_
 rintro x v4 ⟨rfl, hb⟩
 replace g0 := g0.kept hb
 replace gH := gH.kept hb
 replace gS := gS.kept hb
 replace gi := gi.kept hb
 replace hE := hE.kept hb
 replace hB := hB.trans (hb.mono hB.size)
 clear hb
 
 clear HP
 have lcg0 := g0.lt
 have lcgH := gH.lt
 have lcgS := gS.lt
 have lcgi := gi.lt
 have lcB := hB.size
 have lcE := hE.two
 
 go_wp2_with fail
 refine (hBeg _ hE).mono ?_
 rintro x v5 ⟨b, hbb, rfl, g, hb⟩
 have hb3 : 3 ≤ b := by omega
 have hbS : w.heap.size ≤ b := by omega
 replace g0 := g0.kept hb
 replace gH := gH.kept hb
 replace gS := gS.kept hb
 replace gi := gi.kept hb
 replace hE := hE.kept hb
 replace hB := hB.trans (hb.mono hB.size)
 clear hb
 
 clear hBeg
 have hre := ini_e gi
 go_wp2_with (refine wl_value rfl (exec_ldmid rfl isArr32 (by rfl) hre) ?_)
 refine (ephemeralIn_run b H0 C0 _ E _ hE hb3 g hH0 hC0 hEb).mono ?_
 rintro x v6 ⟨rfl, g', t1⟩
 replace g0 := g0.tou t1 (by omega)
 replace gH := gH.tou t1 (by omega)
 replace gS := gS.tou t1 (by omega)
 replace gi := gi.tou t1 (by omega)
 replace hE := hE.touch t1 hb3
 replace hB := belowT hB t1 hbS (Nat.le_refl _)
 clear t1
 
 clear g hre
 have g := g'
 clear g'
 rw [hem] at g
 have hC1 : Byts 32 (chn C0 (m.extract 8 40) 0) := chn_b _ _ 0 32
 have hH1 : Byts 32 (mixH H0 (m.extract 8 40)) := mixH_b _ _ 32
 obtain ⟨C1, hC1e⟩ : ∃ X, chn C0 (m.extract 8 40) 0 = X := ⟨_, rfl⟩
 obtain ⟨H1, hH1e⟩ : ∃ X, mixH H0 (m.extract 8 40) = X := ⟨_, rfl⟩
 rw [hC1e] at g hC1
 rw [hH1e] at g hH1
 have hmf : ∀ (fn : Fn) (first cap : Array Value) (w : World), (Instr.makeFunc fn first cap).run Tryz.prog w = .ok (.func fn first cap) w := fun _ _ _ _ => rfl
 have hre := ini_e gi
 go_wp2_with (first | (refine ld_arr isArr32 g0 (by rfl) ?_) | (refine wl_value rfl (exec_ldmid rfl isArr32 (by rfl) hre) ?_))
 have hz : shZ O E = false := by rw [← hEe]; exact hz1
 refine (secret_no _ O E _ hE hO hEb hz).mono ?_
 rintro x v9 ⟨rfl, hb⟩
 exact ⟨rfl, rfl, hB.trans (hb.mono hB.size)⟩
set_option linter.unusedVariables false in
set_option maxHeartbeats 4000000 in
set_option maxRecDepth 100000 in
theorem accept_o1 (O H0 C0 : Nat → Int) (m : ByteArray) (w : World) (hE : Env w) (hO : Byts 32 O) (hC0 : Byts 32 C0) (hH0 : Byts 32 H0) (hm : m.size = 148) (hk : numA m 0 4 = 1) (hz1 : shZ O (acE m) = true) (hz2 : ¬ (acP O H0 C0 m).2 = 0)
  (hBeg : ∀ u, Env u → Calls Tryz.prog 78 #[.agg (WA .u8 32 (pubF O))] u fun e w' => ∃ b, u.heap.size ≤ b ∧ e = .returned (.pointer (some ⟨b, 0, none⟩)) ∧ KtAt w' b H0 C0 (fun _ => 0) ∧ Below u.heap.size u w') :
  Calls Tryz.prog 46 #[.agg (WA .u8 32 O), .string m] w fun e w' => e = gup 13 ∧ Below w.heap.size w w' := by
 have g0 : ArrAt (((w.alloc (.cells (WA .u8 32 O) 22)).alloc (.cells Tryz.zeroCells31 31)).alloc (.cells (WA .u8 12 (fun _ => 0)) 26)) w.heap.size .u8 22 32 O := heap_a31 w _ _ _
 have gH : SAt (((w.alloc (.cells (WA .u8 32 O) 22)).alloc (.cells Tryz.zeroCells31 31)).alloc (.cells (WA .u8 12 (fun _ => 0)) 26)) (w.heap.size + 1) 31 162 hanZ := by
  have h := heap_a32 w (.cells (WA .u8 32 O) 22) (.cells Tryz.zeroCells31 31) (.cells (WA .u8 12 (fun _ => 0)) 26)
  unfold SAt
  rw [← zeroHand]
  exact h
 have gS : ArrAt (((w.alloc (.cells (WA .u8 32 O) 22)).alloc (.cells Tryz.zeroCells31 31)).alloc (.cells (WA .u8 12 (fun _ => 0)) 26)) (w.heap.size + 1 + 1) .u8 26 12 (fun _ => 0) := heap_a3 w _ _ _
 have hB : Below w.heap.size w (((w.alloc (.cells (WA .u8 32 O) 22)).alloc (.cells Tryz.zeroCells31 31)).alloc (.cells (WA .u8 12 (fun _ => 0)) 26)) := (((Below.refl _ w).alloc (by simp) _).alloc (by simp) _).alloc (by simp; omega) _
 replace hE := hE.kept hB
 go_enter Tryz.func46, Tryz.ntmps46
 go_wp2_with fail
 refine (iniOf_ok m _ hm hk).mono ?_
 rintro x v1 ⟨rfl, hb⟩
 replace g0 := g0.kept hb
 replace gH := gH.kept hb
 replace gS := gS.kept hb
 replace hE := hE.kept hb
 replace hB := hB.trans (hb.mono hB.size)
 clear hb
 
 have hes : (m.extract 8 40).size = 32 := by rw [ByteArray.size_extract]; omega
 have hks : (m.extract 40 88).size = 48 := by rw [ByteArray.size_extract]; omega
 have hsx : (m.extract 88 116).size = 28 := by rw [ByteArray.size_extract]; omega
 obtain ⟨E, hEe⟩ : ∃ X, txt (m.extract 8 40) = X := ⟨_, rfl⟩
 have hEb : Byts 32 E := fun j _ => hEe ▸ txt_b _ j
 have hem : mkS 32 E = m.extract 8 40 := by rw [← hEe, ← hes]; exact mkS_txt _
 obtain ⟨kx, hkx⟩ : ∃ X, m.extract 40 88 = X := ⟨_, rfl⟩
 obtain ⟨sx, hsxe⟩ : ∃ X, m.extract 88 116 = X := ⟨_, rfl⟩
 obtain ⟨n4, hn4⟩ : ∃ X, numA m 4 4 = X := ⟨_, rfl⟩
 rw [hEe, hkx, hsxe, hn4]
 rw [hkx] at hks
 rw [hsxe] at hsx
 have lag0 := g0.lt
 have lagH := gH.lt
 have lagS := gS.lt
 have laB := hB.size
 have laE := hE.two
 
 go_wp2_with (refine wl_allocI ?_; intro v2 gi0 hb; refine Hid.out ?_)
 replace g0 := g0.kept hb
 replace gH := gH.kept hb
 replace gS := gS.kept hb
 replace hE := hE.kept hb
 replace hB := hB.trans (hb.mono hB.size)
 clear hb
 
 refine Hid.mk ?_
 go_wp2_with (refine st_st is_ini (iniV_one _ _ _ _) gi0 (by rfl) (by rfl) ?_; intro v3 gi o6; refine Hid.out ?_)
 replace g0 := g0.only o6 (by omega)
 replace gH := gH.only o6 (by omega)
 replace gS := gS.only o6 (by omega)
 replace hE := hE.only o6 (by omega)
 replace hB := hB.trans (o6.below (by omega))
 clear o6
 
 clear gi0
 refine Hid.mk ?_
 obtain ⟨bi, hbi⟩ : ∃ bi, v1.heap.size = bi := ⟨_, rfl⟩
 rw [hbi] at gi lag0 lagH lagS laB laE ⊢
 clear hbi
 have HP := Hid.mk hE.2
 go_wp2_with (refine ld_arr isArr32 g0 (by rfl) ?_)
 refine (Public_run O _ HP.out hO).mono ?_
 rintro x v4 ⟨rfl, hb⟩
 replace g0 := g0.kept hb
 replace gH := gH.kept hb
 replace gS := gS.kept hb
 replace gi := gi.kept hb
 replace hE := hE.kept hb
 replace hB := hB.trans (hb.mono hB.size)
 clear hb
 
 clear HP
 have lcg0 := g0.lt
 have lcgH := gH.lt
 have lcgS := gS.lt
 have lcgi := gi.lt
 have lcB := hB.size
 have lcE := hE.two
 
 go_wp2_with fail
 refine (hBeg _ hE).mono ?_
 rintro x v5 ⟨b, hbb, rfl, g, hb⟩
 have hb3 : 3 ≤ b := by omega
 have hbS : w.heap.size ≤ b := by omega
 replace g0 := g0.kept hb
 replace gH := gH.kept hb
 replace gS := gS.kept hb
 replace gi := gi.kept hb
 replace hE := hE.kept hb
 replace hB := hB.trans (hb.mono hB.size)
 clear hb
 
 clear hBeg
 have hre := ini_e gi
 go_wp2_with (refine wl_value rfl (exec_ldmid rfl isArr32 (by rfl) hre) ?_)
 refine (ephemeralIn_run b H0 C0 _ E _ hE hb3 g hH0 hC0 hEb).mono ?_
 rintro x v6 ⟨rfl, g', t1⟩
 replace g0 := g0.tou t1 (by omega)
 replace gH := gH.tou t1 (by omega)
 replace gS := gS.tou t1 (by omega)
 replace gi := gi.tou t1 (by omega)
 replace hE := hE.touch t1 hb3
 replace hB := belowT hB t1 hbS (Nat.le_refl _)
 clear t1
 
 clear g hre
 have g := g'
 clear g'
 rw [hem] at g
 have hC1 : Byts 32 (chn C0 (m.extract 8 40) 0) := chn_b _ _ 0 32
 have hH1 : Byts 32 (mixH H0 (m.extract 8 40)) := mixH_b _ _ 32
 obtain ⟨C1, hC1e⟩ : ∃ X, chn C0 (m.extract 8 40) 0 = X := ⟨_, rfl⟩
 obtain ⟨H1, hH1e⟩ : ∃ X, mixH H0 (m.extract 8 40) = X := ⟨_, rfl⟩
 rw [hC1e] at g hC1
 rw [hH1e] at g hH1
 have hmf : ∀ (fn : Fn) (first cap : Array Value) (w : World), (Instr.makeFunc fn first cap).run Tryz.prog w = .ok (.func fn first cap) w := fun _ _ _ _ => rfl
 have hre := ini_e gi
 go_wp2_with (first | (refine ld_arr isArr32 g0 (by rfl) ?_) | (refine wl_value rfl (exec_ldmid rfl isArr32 (by rfl) hre) ?_))
 have hzE : shZ O E = true := by rw [← hEe]; exact hz1
 refine (secretKey_run b H1 C1 _ O E _ hE g hC1 hO hEb hzE).mono ?_
 rintro x v7 ⟨rfl, g', t1⟩
 replace g0 := g0.tou t1 (by omega)
 replace gH := gH.tou t1 (by omega)
 replace gS := gS.tou t1 (by omega)
 replace gi := gi.tou t1 (by omega)
 replace hE := hE.touch t1 hb3
 replace hB := belowT hB t1 hbS (Nat.le_refl _)
 clear t1
 
 clear g
 have g := g'
 clear g'
 obtain ⟨L, hLe⟩ : ∃ X, chn C1 (mkS 32 (shF O E)) = X := ⟨_, rfl⟩
 have hL : ∀ i, Byts 32 (L i) := fun i => hLe ▸ chn_b _ _ i 32
 rw [hLe] at g
 have hcl : _ := gi.at 33 (by omega)
 replace hcl : _ = some (Value.string kx) := hcl
 go_wp2_with fail
 have hPe : openT (L 1) non0 kx (mkS 32 H1) = acP O H0 C0 m := by simp only [acP, acL, acH1, acE, hkx, hEe, hC1e, hH1e, hLe]
 have hzp : ¬ (openT (L 1) non0 kx (mkS 32 H1)).2 = 0 := by rw [hPe]; exact hz2
 refine (open_no b H1 (L 0) (L 1) kx _ hE hb3 g hH1 (hL 1) (by omega) hzp).mono ?_
 rintro x v9 ⟨rfl, t1⟩
 exact ⟨rfl, rfl, belowT hB t1 hbS (Nat.le_refl _)⟩
set_option linter.unusedVariables false in
set_option maxHeartbeats 4000000 in
set_option maxRecDepth 100000 in
theorem accept_z2 (O H0 C0 : Nat → Int) (m : ByteArray) (w : World) (hE : Env w) (hO : Byts 32 O) (hC0 : Byts 32 C0) (hH0 : Byts 32 H0) (hm : m.size = 148) (hk : numA m 0 4 = 1) (hz1 : shZ O (acE m) = true) (hz2 : (acP O H0 C0 m).2 = 0) (hz3 : shZ O (acK O H0 C0 m) = false)
  (hBeg : ∀ u, Env u → Calls Tryz.prog 78 #[.agg (WA .u8 32 (pubF O))] u fun e w' => ∃ b, u.heap.size ≤ b ∧ e = .returned (.pointer (some ⟨b, 0, none⟩)) ∧ KtAt w' b H0 C0 (fun _ => 0) ∧ Below u.heap.size u w') :
  Calls Tryz.prog 46 #[.agg (WA .u8 32 O), .string m] w fun e w' => e = gup 18 ∧ Below w.heap.size w w' := by
 have g0 : ArrAt (((w.alloc (.cells (WA .u8 32 O) 22)).alloc (.cells Tryz.zeroCells31 31)).alloc (.cells (WA .u8 12 (fun _ => 0)) 26)) w.heap.size .u8 22 32 O := heap_a31 w _ _ _
 have gH : SAt (((w.alloc (.cells (WA .u8 32 O) 22)).alloc (.cells Tryz.zeroCells31 31)).alloc (.cells (WA .u8 12 (fun _ => 0)) 26)) (w.heap.size + 1) 31 162 hanZ := by
  have h := heap_a32 w (.cells (WA .u8 32 O) 22) (.cells Tryz.zeroCells31 31) (.cells (WA .u8 12 (fun _ => 0)) 26)
  unfold SAt
  rw [← zeroHand]
  exact h
 have gS : ArrAt (((w.alloc (.cells (WA .u8 32 O) 22)).alloc (.cells Tryz.zeroCells31 31)).alloc (.cells (WA .u8 12 (fun _ => 0)) 26)) (w.heap.size + 1 + 1) .u8 26 12 (fun _ => 0) := heap_a3 w _ _ _
 have hB : Below w.heap.size w (((w.alloc (.cells (WA .u8 32 O) 22)).alloc (.cells Tryz.zeroCells31 31)).alloc (.cells (WA .u8 12 (fun _ => 0)) 26)) := (((Below.refl _ w).alloc (by simp) _).alloc (by simp) _).alloc (by simp; omega) _
 replace hE := hE.kept hB
 go_enter Tryz.func46, Tryz.ntmps46
 go_wp2_with fail
 refine (iniOf_ok m _ hm hk).mono ?_
 rintro x v1 ⟨rfl, hb⟩
 replace g0 := g0.kept hb
 replace gH := gH.kept hb
 replace gS := gS.kept hb
 replace hE := hE.kept hb
 replace hB := hB.trans (hb.mono hB.size)
 clear hb
 
 have hes : (m.extract 8 40).size = 32 := by rw [ByteArray.size_extract]; omega
 have hks : (m.extract 40 88).size = 48 := by rw [ByteArray.size_extract]; omega
 have hsx : (m.extract 88 116).size = 28 := by rw [ByteArray.size_extract]; omega
 obtain ⟨E, hEe⟩ : ∃ X, txt (m.extract 8 40) = X := ⟨_, rfl⟩
 have hEb : Byts 32 E := fun j _ => hEe ▸ txt_b _ j
 have hem : mkS 32 E = m.extract 8 40 := by rw [← hEe, ← hes]; exact mkS_txt _
 obtain ⟨kx, hkx⟩ : ∃ X, m.extract 40 88 = X := ⟨_, rfl⟩
 obtain ⟨sx, hsxe⟩ : ∃ X, m.extract 88 116 = X := ⟨_, rfl⟩
 obtain ⟨n4, hn4⟩ : ∃ X, numA m 4 4 = X := ⟨_, rfl⟩
 rw [hEe, hkx, hsxe, hn4]
 rw [hkx] at hks
 rw [hsxe] at hsx
 have lag0 := g0.lt
 have lagH := gH.lt
 have lagS := gS.lt
 have laB := hB.size
 have laE := hE.two
 
 go_wp2_with (refine wl_allocI ?_; intro v2 gi0 hb; refine Hid.out ?_)
 replace g0 := g0.kept hb
 replace gH := gH.kept hb
 replace gS := gS.kept hb
 replace hE := hE.kept hb
 replace hB := hB.trans (hb.mono hB.size)
 clear hb
 
 refine Hid.mk ?_
 go_wp2_with (refine st_st is_ini (iniV_one _ _ _ _) gi0 (by rfl) (by rfl) ?_; intro v3 gi o6; refine Hid.out ?_)
 replace g0 := g0.only o6 (by omega)
 replace gH := gH.only o6 (by omega)
 replace gS := gS.only o6 (by omega)
 replace hE := hE.only o6 (by omega)
 replace hB := hB.trans (o6.below (by omega))
 clear o6
 
 clear gi0
 refine Hid.mk ?_
 obtain ⟨bi, hbi⟩ : ∃ bi, v1.heap.size = bi := ⟨_, rfl⟩
 rw [hbi] at gi lag0 lagH lagS laB laE ⊢
 clear hbi
 have HP := Hid.mk hE.2
 go_wp2_with (refine ld_arr isArr32 g0 (by rfl) ?_)
 refine (Public_run O _ HP.out hO).mono ?_
 rintro x v4 ⟨rfl, hb⟩
 replace g0 := g0.kept hb
 replace gH := gH.kept hb
 replace gS := gS.kept hb
 replace gi := gi.kept hb
 replace hE := hE.kept hb
 replace hB := hB.trans (hb.mono hB.size)
 clear hb
 
 clear HP
 have lcg0 := g0.lt
 have lcgH := gH.lt
 have lcgS := gS.lt
 have lcgi := gi.lt
 have lcB := hB.size
 have lcE := hE.two
 
 go_wp2_with fail
 refine (hBeg _ hE).mono ?_
 rintro x v5 ⟨b, hbb, rfl, g, hb⟩
 have hb3 : 3 ≤ b := by omega
 have hbS : w.heap.size ≤ b := by omega
 replace g0 := g0.kept hb
 replace gH := gH.kept hb
 replace gS := gS.kept hb
 replace gi := gi.kept hb
 replace hE := hE.kept hb
 replace hB := hB.trans (hb.mono hB.size)
 clear hb
 
 clear hBeg
 have hre := ini_e gi
 go_wp2_with (refine wl_value rfl (exec_ldmid rfl isArr32 (by rfl) hre) ?_)
 refine (ephemeralIn_run b H0 C0 _ E _ hE hb3 g hH0 hC0 hEb).mono ?_
 rintro x v6 ⟨rfl, g', t1⟩
 replace g0 := g0.tou t1 (by omega)
 replace gH := gH.tou t1 (by omega)
 replace gS := gS.tou t1 (by omega)
 replace gi := gi.tou t1 (by omega)
 replace hE := hE.touch t1 hb3
 replace hB := belowT hB t1 hbS (Nat.le_refl _)
 clear t1
 
 clear g hre
 have g := g'
 clear g'
 rw [hem] at g
 have hC1 : Byts 32 (chn C0 (m.extract 8 40) 0) := chn_b _ _ 0 32
 have hH1 : Byts 32 (mixH H0 (m.extract 8 40)) := mixH_b _ _ 32
 obtain ⟨C1, hC1e⟩ : ∃ X, chn C0 (m.extract 8 40) 0 = X := ⟨_, rfl⟩
 obtain ⟨H1, hH1e⟩ : ∃ X, mixH H0 (m.extract 8 40) = X := ⟨_, rfl⟩
 rw [hC1e] at g hC1
 rw [hH1e] at g hH1
 have hmf : ∀ (fn : Fn) (first cap : Array Value) (w : World), (Instr.makeFunc fn first cap).run Tryz.prog w = .ok (.func fn first cap) w := fun _ _ _ _ => rfl
 have hre := ini_e gi
 go_wp2_with (first | (refine ld_arr isArr32 g0 (by rfl) ?_) | (refine wl_value rfl (exec_ldmid rfl isArr32 (by rfl) hre) ?_))
 have hzE : shZ O E = true := by rw [← hEe]; exact hz1
 refine (secretKey_run b H1 C1 _ O E _ hE g hC1 hO hEb hzE).mono ?_
 rintro x v7 ⟨rfl, g', t1⟩
 replace g0 := g0.tou t1 (by omega)
 replace gH := gH.tou t1 (by omega)
 replace gS := gS.tou t1 (by omega)
 replace gi := gi.tou t1 (by omega)
 replace hE := hE.touch t1 hb3
 replace hB := belowT hB t1 hbS (Nat.le_refl _)
 clear t1
 
 clear g
 have g := g'
 clear g'
 obtain ⟨L, hLe⟩ : ∃ X, chn C1 (mkS 32 (shF O E)) = X := ⟨_, rfl⟩
 have hL : ∀ i, Byts 32 (L i) := fun i => hLe ▸ chn_b _ _ i 32
 rw [hLe] at g
 have hcl : _ := gi.at 33 (by omega)
 replace hcl : _ = some (Value.string kx) := hcl
 go_wp2_with fail
 have hPe : openT (L 1) non0 kx (mkS 32 H1) = acP O H0 C0 m := by simp only [acP, acL, acH1, acE, hkx, hEe, hC1e, hH1e, hLe]
 have hzp : (openT (L 1) non0 kx (mkS 32 H1)).2 = 0 := by rw [hPe]; exact hz2
 refine (open_ok b H1 (L 0) (L 1) kx _ hE hb3 g hH1 (hL 1) (by omega) hzp).mono ?_
 rintro x v8 ⟨rfl, g', t1⟩
 replace g0 := g0.tou t1 (by omega)
 replace gH := gH.tou t1 (by omega)
 replace gS := gS.tou t1 (by omega)
 replace gi := gi.tou t1 (by omega)
 replace hE := hE.touch t1 hb3
 replace hB := belowT hB t1 hbS (Nat.le_refl _)
 clear t1
 
 clear g hcl
 have g := g'
 clear g'
 obtain ⟨H2, hH2e⟩ : ∃ X, mixH H1 kx = X := ⟨_, rfl⟩
 rw [hH2e] at g
 have hH2 : Byts 32 H2 := hH2e ▸ mixH_b _ _ 32
 have hps : (openT (L 1) non0 kx (mkS 32 H1)).1.size = 32 := by rw [open_size hzp]; omega
 obtain ⟨p, hpe⟩ : ∃ X, (openT (L 1) non0 kx (mkS 32 H1)).1 = X := ⟨_, rfl⟩
 rw [hpe] at hps ⊢
 go_wp2_with fail
 have hpx : p.extract 0 (0 + 32) = p := by rw [Nat.zero_add, ← hps]; exact ByteArray.extract_zero_size
 refine (keyAt_run p 0 _ (by omega) (by omega)).mono ?_
 rintro x v9 ⟨rfl, hb⟩
 replace g0 := g0.kept hb
 replace gH := gH.kept hb
 replace gS := gS.kept hb
 replace gi := gi.kept hb
 replace g := g.kept hb
 replace hE := hE.kept hb
 replace hB := hB.trans (hb.mono hB.size)
 clear hb
 
 rw [hpx]
 have hKb : Byts 32 (txt p) := fun j _ => txt_b _ j
 obtain ⟨Q, hQ⟩ : ∃ X, txt p = X := ⟨_, rfl⟩
 rw [hQ] at hKb ⊢
 have ldg0 := g0.lt
 have ldgH := gH.lt
 have ldgS := gS.lt
 have ldgi := gi.lt
 have ldg := g.lt
 have ldB := hB.size
 have ldE := hE.two
 go_wp2_with (refine wl_alloc32 ?_; intro v10a gp0 hb; refine Hid.out ?_)
 replace g0 := g0.kept hb
 replace gH := gH.kept hb
 replace gS := gS.kept hb
 replace gi := gi.kept hb
 replace g := g.kept hb
 replace hE := hE.kept hb
 replace hB := hB.trans (hb.mono hB.size)
 clear hb
 refine Hid.mk ?_
 go_wp2_with (refine st_arr isArr32 gp0 (by rfl) (by rfl) ?_; intro v10b gp o6; refine Hid.out ?_)
 replace g0 := g0.only o6 (by omega)
 replace gH := gH.only o6 (by omega)
 replace gS := gS.only o6 (by omega)
 replace gi := gi.only o6 (by omega)
 replace g := g.only o6 (by omega)
 replace hE := hE.only o6 (by omega)
 replace hB := hB.trans (o6.below (by omega))
 clear o6
 clear gp0
 refine Hid.mk ?_
 
 obtain ⟨bp, hbp⟩ : ∃ bp, v9.heap.size = bp := ⟨_, rfl⟩
 rw [hbp] at gp ldg0 ldgH ldgS ldgi ldg ldB ldE ⊢
 clear hbp
 go_wp2_with (first | (refine ld_arr isArr32 g0 (by rfl) ?_) | (refine ld_arr isArr32 gp (by rfl) ?_))
 have hQb := hKb
 have hKe : Q = acK O H0 C0 m := by rw [← hQ, ← hpe, hPe]; rfl
 have hz : shZ O Q = false := by rw [hKe]; exact hz3
 refine (secret_no _ O Q _ hE hO hQb hz).mono ?_
 rintro x v9 ⟨rfl, hb⟩
 exact ⟨rfl, rfl, hB.trans (hb.mono hB.size)⟩
set_option linter.unusedVariables false in
set_option maxHeartbeats 4000000 in
set_option maxRecDepth 100000 in
theorem accept_o2 (O H0 C0 : Nat → Int) (m : ByteArray) (w : World) (hE : Env w) (hO : Byts 32 O) (hC0 : Byts 32 C0) (hH0 : Byts 32 H0) (hm : m.size = 148) (hk : numA m 0 4 = 1) (hz1 : shZ O (acE m) = true) (hz2 : (acP O H0 C0 m).2 = 0) (hz3 : shZ O (acK O H0 C0 m) = true) (hz4 : ¬ (acT O H0 C0 m).2 = 0)
  (hBeg : ∀ u, Env u → Calls Tryz.prog 78 #[.agg (WA .u8 32 (pubF O))] u fun e w' => ∃ b, u.heap.size ≤ b ∧ e = .returned (.pointer (some ⟨b, 0, none⟩)) ∧ KtAt w' b H0 C0 (fun _ => 0) ∧ Below u.heap.size u w') :
  Calls Tryz.prog 46 #[.agg (WA .u8 32 O), .string m] w fun e w' => e = gup 13 ∧ Below w.heap.size w w' := by
 have g0 : ArrAt (((w.alloc (.cells (WA .u8 32 O) 22)).alloc (.cells Tryz.zeroCells31 31)).alloc (.cells (WA .u8 12 (fun _ => 0)) 26)) w.heap.size .u8 22 32 O := heap_a31 w _ _ _
 have gH : SAt (((w.alloc (.cells (WA .u8 32 O) 22)).alloc (.cells Tryz.zeroCells31 31)).alloc (.cells (WA .u8 12 (fun _ => 0)) 26)) (w.heap.size + 1) 31 162 hanZ := by
  have h := heap_a32 w (.cells (WA .u8 32 O) 22) (.cells Tryz.zeroCells31 31) (.cells (WA .u8 12 (fun _ => 0)) 26)
  unfold SAt
  rw [← zeroHand]
  exact h
 have gS : ArrAt (((w.alloc (.cells (WA .u8 32 O) 22)).alloc (.cells Tryz.zeroCells31 31)).alloc (.cells (WA .u8 12 (fun _ => 0)) 26)) (w.heap.size + 1 + 1) .u8 26 12 (fun _ => 0) := heap_a3 w _ _ _
 have hB : Below w.heap.size w (((w.alloc (.cells (WA .u8 32 O) 22)).alloc (.cells Tryz.zeroCells31 31)).alloc (.cells (WA .u8 12 (fun _ => 0)) 26)) := (((Below.refl _ w).alloc (by simp) _).alloc (by simp) _).alloc (by simp; omega) _
 replace hE := hE.kept hB
 go_enter Tryz.func46, Tryz.ntmps46
 go_wp2_with fail
 refine (iniOf_ok m _ hm hk).mono ?_
 rintro x v1 ⟨rfl, hb⟩
 replace g0 := g0.kept hb
 replace gH := gH.kept hb
 replace gS := gS.kept hb
 replace hE := hE.kept hb
 replace hB := hB.trans (hb.mono hB.size)
 clear hb
 
 have hes : (m.extract 8 40).size = 32 := by rw [ByteArray.size_extract]; omega
 have hks : (m.extract 40 88).size = 48 := by rw [ByteArray.size_extract]; omega
 have hsx : (m.extract 88 116).size = 28 := by rw [ByteArray.size_extract]; omega
 obtain ⟨E, hEe⟩ : ∃ X, txt (m.extract 8 40) = X := ⟨_, rfl⟩
 have hEb : Byts 32 E := fun j _ => hEe ▸ txt_b _ j
 have hem : mkS 32 E = m.extract 8 40 := by rw [← hEe, ← hes]; exact mkS_txt _
 obtain ⟨kx, hkx⟩ : ∃ X, m.extract 40 88 = X := ⟨_, rfl⟩
 obtain ⟨sx, hsxe⟩ : ∃ X, m.extract 88 116 = X := ⟨_, rfl⟩
 obtain ⟨n4, hn4⟩ : ∃ X, numA m 4 4 = X := ⟨_, rfl⟩
 rw [hEe, hkx, hsxe, hn4]
 rw [hkx] at hks
 rw [hsxe] at hsx
 have lag0 := g0.lt
 have lagH := gH.lt
 have lagS := gS.lt
 have laB := hB.size
 have laE := hE.two
 
 go_wp2_with (refine wl_allocI ?_; intro v2 gi0 hb; refine Hid.out ?_)
 replace g0 := g0.kept hb
 replace gH := gH.kept hb
 replace gS := gS.kept hb
 replace hE := hE.kept hb
 replace hB := hB.trans (hb.mono hB.size)
 clear hb
 
 refine Hid.mk ?_
 go_wp2_with (refine st_st is_ini (iniV_one _ _ _ _) gi0 (by rfl) (by rfl) ?_; intro v3 gi o6; refine Hid.out ?_)
 replace g0 := g0.only o6 (by omega)
 replace gH := gH.only o6 (by omega)
 replace gS := gS.only o6 (by omega)
 replace hE := hE.only o6 (by omega)
 replace hB := hB.trans (o6.below (by omega))
 clear o6
 
 clear gi0
 refine Hid.mk ?_
 obtain ⟨bi, hbi⟩ : ∃ bi, v1.heap.size = bi := ⟨_, rfl⟩
 rw [hbi] at gi lag0 lagH lagS laB laE ⊢
 clear hbi
 have HP := Hid.mk hE.2
 go_wp2_with (refine ld_arr isArr32 g0 (by rfl) ?_)
 refine (Public_run O _ HP.out hO).mono ?_
 rintro x v4 ⟨rfl, hb⟩
 replace g0 := g0.kept hb
 replace gH := gH.kept hb
 replace gS := gS.kept hb
 replace gi := gi.kept hb
 replace hE := hE.kept hb
 replace hB := hB.trans (hb.mono hB.size)
 clear hb
 
 clear HP
 have lcg0 := g0.lt
 have lcgH := gH.lt
 have lcgS := gS.lt
 have lcgi := gi.lt
 have lcB := hB.size
 have lcE := hE.two
 
 go_wp2_with fail
 refine (hBeg _ hE).mono ?_
 rintro x v5 ⟨b, hbb, rfl, g, hb⟩
 have hb3 : 3 ≤ b := by omega
 have hbS : w.heap.size ≤ b := by omega
 replace g0 := g0.kept hb
 replace gH := gH.kept hb
 replace gS := gS.kept hb
 replace gi := gi.kept hb
 replace hE := hE.kept hb
 replace hB := hB.trans (hb.mono hB.size)
 clear hb
 
 clear hBeg
 have hre := ini_e gi
 go_wp2_with (refine wl_value rfl (exec_ldmid rfl isArr32 (by rfl) hre) ?_)
 refine (ephemeralIn_run b H0 C0 _ E _ hE hb3 g hH0 hC0 hEb).mono ?_
 rintro x v6 ⟨rfl, g', t1⟩
 replace g0 := g0.tou t1 (by omega)
 replace gH := gH.tou t1 (by omega)
 replace gS := gS.tou t1 (by omega)
 replace gi := gi.tou t1 (by omega)
 replace hE := hE.touch t1 hb3
 replace hB := belowT hB t1 hbS (Nat.le_refl _)
 clear t1
 
 clear g hre
 have g := g'
 clear g'
 rw [hem] at g
 have hC1 : Byts 32 (chn C0 (m.extract 8 40) 0) := chn_b _ _ 0 32
 have hH1 : Byts 32 (mixH H0 (m.extract 8 40)) := mixH_b _ _ 32
 obtain ⟨C1, hC1e⟩ : ∃ X, chn C0 (m.extract 8 40) 0 = X := ⟨_, rfl⟩
 obtain ⟨H1, hH1e⟩ : ∃ X, mixH H0 (m.extract 8 40) = X := ⟨_, rfl⟩
 rw [hC1e] at g hC1
 rw [hH1e] at g hH1
 have hmf : ∀ (fn : Fn) (first cap : Array Value) (w : World), (Instr.makeFunc fn first cap).run Tryz.prog w = .ok (.func fn first cap) w := fun _ _ _ _ => rfl
 have hre := ini_e gi
 go_wp2_with (first | (refine ld_arr isArr32 g0 (by rfl) ?_) | (refine wl_value rfl (exec_ldmid rfl isArr32 (by rfl) hre) ?_))
 have hzE : shZ O E = true := by rw [← hEe]; exact hz1
 refine (secretKey_run b H1 C1 _ O E _ hE g hC1 hO hEb hzE).mono ?_
 rintro x v7 ⟨rfl, g', t1⟩
 replace g0 := g0.tou t1 (by omega)
 replace gH := gH.tou t1 (by omega)
 replace gS := gS.tou t1 (by omega)
 replace gi := gi.tou t1 (by omega)
 replace hE := hE.touch t1 hb3
 replace hB := belowT hB t1 hbS (Nat.le_refl _)
 clear t1
 
 clear g
 have g := g'
 clear g'
 obtain ⟨L, hLe⟩ : ∃ X, chn C1 (mkS 32 (shF O E)) = X := ⟨_, rfl⟩
 have hL : ∀ i, Byts 32 (L i) := fun i => hLe ▸ chn_b _ _ i 32
 rw [hLe] at g
 have hcl : _ := gi.at 33 (by omega)
 replace hcl : _ = some (Value.string kx) := hcl
 go_wp2_with fail
 have hPe : openT (L 1) non0 kx (mkS 32 H1) = acP O H0 C0 m := by simp only [acP, acL, acH1, acE, hkx, hEe, hC1e, hH1e, hLe]
 have hzp : (openT (L 1) non0 kx (mkS 32 H1)).2 = 0 := by rw [hPe]; exact hz2
 refine (open_ok b H1 (L 0) (L 1) kx _ hE hb3 g hH1 (hL 1) (by omega) hzp).mono ?_
 rintro x v8 ⟨rfl, g', t1⟩
 replace g0 := g0.tou t1 (by omega)
 replace gH := gH.tou t1 (by omega)
 replace gS := gS.tou t1 (by omega)
 replace gi := gi.tou t1 (by omega)
 replace hE := hE.touch t1 hb3
 replace hB := belowT hB t1 hbS (Nat.le_refl _)
 clear t1
 
 clear g hcl
 have g := g'
 clear g'
 obtain ⟨H2, hH2e⟩ : ∃ X, mixH H1 kx = X := ⟨_, rfl⟩
 rw [hH2e] at g
 have hH2 : Byts 32 H2 := hH2e ▸ mixH_b _ _ 32
 have hps : (openT (L 1) non0 kx (mkS 32 H1)).1.size = 32 := by rw [open_size hzp]; omega
 obtain ⟨p, hpe⟩ : ∃ X, (openT (L 1) non0 kx (mkS 32 H1)).1 = X := ⟨_, rfl⟩
 rw [hpe] at hps ⊢
 go_wp2_with fail
 have hpx : p.extract 0 (0 + 32) = p := by rw [Nat.zero_add, ← hps]; exact ByteArray.extract_zero_size
 refine (keyAt_run p 0 _ (by omega) (by omega)).mono ?_
 rintro x v9 ⟨rfl, hb⟩
 replace g0 := g0.kept hb
 replace gH := gH.kept hb
 replace gS := gS.kept hb
 replace gi := gi.kept hb
 replace g := g.kept hb
 replace hE := hE.kept hb
 replace hB := hB.trans (hb.mono hB.size)
 clear hb
 
 rw [hpx]
 have hKb : Byts 32 (txt p) := fun j _ => txt_b _ j
 obtain ⟨Q, hQ⟩ : ∃ X, txt p = X := ⟨_, rfl⟩
 rw [hQ] at hKb ⊢
 have ldg0 := g0.lt
 have ldgH := gH.lt
 have ldgS := gS.lt
 have ldgi := gi.lt
 have ldg := g.lt
 have ldB := hB.size
 have ldE := hE.two
 go_wp2_with (refine wl_alloc32 ?_; intro v10a gp0 hb; refine Hid.out ?_)
 replace g0 := g0.kept hb
 replace gH := gH.kept hb
 replace gS := gS.kept hb
 replace gi := gi.kept hb
 replace g := g.kept hb
 replace hE := hE.kept hb
 replace hB := hB.trans (hb.mono hB.size)
 clear hb
 refine Hid.mk ?_
 go_wp2_with (refine st_arr isArr32 gp0 (by rfl) (by rfl) ?_; intro v10b gp o6; refine Hid.out ?_)
 replace g0 := g0.only o6 (by omega)
 replace gH := gH.only o6 (by omega)
 replace gS := gS.only o6 (by omega)
 replace gi := gi.only o6 (by omega)
 replace g := g.only o6 (by omega)
 replace hE := hE.only o6 (by omega)
 replace hB := hB.trans (o6.below (by omega))
 clear o6
 clear gp0
 refine Hid.mk ?_
 
 obtain ⟨bp, hbp⟩ : ∃ bp, v9.heap.size = bp := ⟨_, rfl⟩
 rw [hbp] at gp ldg0 ldgH ldgS ldgi ldg ldB ldE ⊢
 clear hbp
 go_wp2_with (first | (refine ld_arr isArr32 g0 (by rfl) ?_) | (refine ld_arr isArr32 gp (by rfl) ?_))
 have hQb := hKb
 have hKe : Q = acK O H0 C0 m := by rw [← hQ, ← hpe, hPe]; rfl
 have hzQ : shZ O Q = true := by rw [hKe]; exact hz3
 refine (secretKey_run b H2 (L 0) _ O Q _ hE g (hL 0) hO hQb hzQ).mono ?_
 rintro x v11 ⟨rfl, g', t1⟩
 replace g0 := g0.tou t1 (by omega)
 replace gH := gH.tou t1 (by omega)
 replace gS := gS.tou t1 (by omega)
 replace gi := gi.tou t1 (by omega)
 replace gp := gp.tou t1 (by omega)
 replace hE := hE.touch t1 hb3
 replace hB := belowT hB t1 hbS (Nat.le_refl _)
 clear t1
 
 clear g
 have g := g'
 clear g'
 obtain ⟨M, hMe⟩ : ∃ X, chn (L 0) (mkS 32 (shF O Q)) = X := ⟨_, rfl⟩
 have hM : ∀ i, Byts 32 (M i) := fun i => hMe ▸ chn_b _ _ i 32
 rw [hMe] at g
 have hcl : _ := gi.at 34 (by omega)
 replace hcl : _ = some (Value.string sx) := hcl
 go_wp2_with fail
 have hTe : openT (M 1) non0 sx (mkS 32 H2) = acT O H0 C0 m := by simp only [acT, acM, acL, acH2, acH1, acE, hkx, hsxe, hEe, hC1e, hH1e, hLe, hH2e, ← hKe, hMe]
 have hzt : ¬ (openT (M 1) non0 sx (mkS 32 H2)).2 = 0 := by rw [hTe]; exact hz4
 refine (open_no b H2 (M 0) (M 1) sx _ hE hb3 g hH2 (hM 1) (by omega) hzt).mono ?_
 rintro x v9 ⟨rfl, t1⟩
 exact ⟨rfl, rfl, belowT hB t1 hbS (Nat.le_refl _)⟩
set_option linter.unusedVariables false in
set_option maxHeartbeats 4000000 in
set_option maxRecDepth 100000 in
theorem accept_ok (O H0 C0 : Nat → Int) (m : ByteArray) (w : World) (hE : Env w) (hO : Byts 32 O) (hC0 : Byts 32 C0) (hH0 : Byts 32 H0) (hm : m.size = 148) (hk : numA m 0 4 = 1) (hz1 : shZ O (acE m) = true) (hz2 : (acP O H0 C0 m).2 = 0) (hz3 : shZ O (acK O H0 C0 m) = true) (hz4 : (acT O H0 C0 m).2 = 0)
  (hBeg : ∀ u, Env u → Calls Tryz.prog 78 #[.agg (WA .u8 32 (pubF O))] u fun e w' => ∃ b, u.heap.size ≤ b ∧ e = .returned (.pointer (some ⟨b, 0, none⟩)) ∧ KtAt w' b H0 C0 (fun _ => 0) ∧ Below u.heap.size u w') :
  Calls Tryz.prog 46 #[.agg (WA .u8 32 O), .string m] w fun e w' => e = .returned (.tuple #[.agg (SC 162 (hanV (acH3 H0 m) (acM O H0 C0 m 0) (fun _ => 0) (acE m) (acK O H0 C0 m) 0 (numA m 4 4))), .agg (WA .u8 12 (txt (acT O H0 C0 m).1))]) ∧ Below w.heap.size w w' := by
 have g0 : ArrAt (((w.alloc (.cells (WA .u8 32 O) 22)).alloc (.cells Tryz.zeroCells31 31)).alloc (.cells (WA .u8 12 (fun _ => 0)) 26)) w.heap.size .u8 22 32 O := heap_a31 w _ _ _
 have gH : SAt (((w.alloc (.cells (WA .u8 32 O) 22)).alloc (.cells Tryz.zeroCells31 31)).alloc (.cells (WA .u8 12 (fun _ => 0)) 26)) (w.heap.size + 1) 31 162 hanZ := by
  have h := heap_a32 w (.cells (WA .u8 32 O) 22) (.cells Tryz.zeroCells31 31) (.cells (WA .u8 12 (fun _ => 0)) 26)
  unfold SAt
  rw [← zeroHand]
  exact h
 have gS : ArrAt (((w.alloc (.cells (WA .u8 32 O) 22)).alloc (.cells Tryz.zeroCells31 31)).alloc (.cells (WA .u8 12 (fun _ => 0)) 26)) (w.heap.size + 1 + 1) .u8 26 12 (fun _ => 0) := heap_a3 w _ _ _
 have hB : Below w.heap.size w (((w.alloc (.cells (WA .u8 32 O) 22)).alloc (.cells Tryz.zeroCells31 31)).alloc (.cells (WA .u8 12 (fun _ => 0)) 26)) := (((Below.refl _ w).alloc (by simp) _).alloc (by simp) _).alloc (by simp; omega) _
 replace hE := hE.kept hB
 go_enter Tryz.func46, Tryz.ntmps46
 go_wp2_with fail
 refine (iniOf_ok m _ hm hk).mono ?_
 rintro x v1 ⟨rfl, hb⟩
 replace g0 := g0.kept hb
 replace gH := gH.kept hb
 replace gS := gS.kept hb
 replace hE := hE.kept hb
 replace hB := hB.trans (hb.mono hB.size)
 clear hb
 
 have hes : (m.extract 8 40).size = 32 := by rw [ByteArray.size_extract]; omega
 have hks : (m.extract 40 88).size = 48 := by rw [ByteArray.size_extract]; omega
 have hsx : (m.extract 88 116).size = 28 := by rw [ByteArray.size_extract]; omega
 obtain ⟨E, hEe⟩ : ∃ X, txt (m.extract 8 40) = X := ⟨_, rfl⟩
 have hEb : Byts 32 E := fun j _ => hEe ▸ txt_b _ j
 have hem : mkS 32 E = m.extract 8 40 := by rw [← hEe, ← hes]; exact mkS_txt _
 obtain ⟨kx, hkx⟩ : ∃ X, m.extract 40 88 = X := ⟨_, rfl⟩
 obtain ⟨sx, hsxe⟩ : ∃ X, m.extract 88 116 = X := ⟨_, rfl⟩
 obtain ⟨n4, hn4⟩ : ∃ X, numA m 4 4 = X := ⟨_, rfl⟩
 rw [hEe, hkx, hsxe, hn4]
 rw [hkx] at hks
 rw [hsxe] at hsx
 have lag0 := g0.lt
 have lagH := gH.lt
 have lagS := gS.lt
 have laB := hB.size
 have laE := hE.two
 
 go_wp2_with (refine wl_allocI ?_; intro v2 gi0 hb; refine Hid.out ?_)
 replace g0 := g0.kept hb
 replace gH := gH.kept hb
 replace gS := gS.kept hb
 replace hE := hE.kept hb
 replace hB := hB.trans (hb.mono hB.size)
 clear hb
 
 refine Hid.mk ?_
 go_wp2_with (refine st_st is_ini (iniV_one _ _ _ _) gi0 (by rfl) (by rfl) ?_; intro v3 gi o6; refine Hid.out ?_)
 replace g0 := g0.only o6 (by omega)
 replace gH := gH.only o6 (by omega)
 replace gS := gS.only o6 (by omega)
 replace hE := hE.only o6 (by omega)
 replace hB := hB.trans (o6.below (by omega))
 clear o6
 
 clear gi0
 refine Hid.mk ?_
 obtain ⟨bi, hbi⟩ : ∃ bi, v1.heap.size = bi := ⟨_, rfl⟩
 rw [hbi] at gi lag0 lagH lagS laB laE ⊢
 clear hbi
 have HP := Hid.mk hE.2
 go_wp2_with (refine ld_arr isArr32 g0 (by rfl) ?_)
 refine (Public_run O _ HP.out hO).mono ?_
 rintro x v4 ⟨rfl, hb⟩
 replace g0 := g0.kept hb
 replace gH := gH.kept hb
 replace gS := gS.kept hb
 replace gi := gi.kept hb
 replace hE := hE.kept hb
 replace hB := hB.trans (hb.mono hB.size)
 clear hb
 
 clear HP
 have lcg0 := g0.lt
 have lcgH := gH.lt
 have lcgS := gS.lt
 have lcgi := gi.lt
 have lcB := hB.size
 have lcE := hE.two
 
 go_wp2_with fail
 refine (hBeg _ hE).mono ?_
 rintro x v5 ⟨b, hbb, rfl, g, hb⟩
 have hb3 : 3 ≤ b := by omega
 have hbS : w.heap.size ≤ b := by omega
 replace g0 := g0.kept hb
 replace gH := gH.kept hb
 replace gS := gS.kept hb
 replace gi := gi.kept hb
 replace hE := hE.kept hb
 replace hB := hB.trans (hb.mono hB.size)
 clear hb
 
 clear hBeg
 have hre := ini_e gi
 go_wp2_with (refine wl_value rfl (exec_ldmid rfl isArr32 (by rfl) hre) ?_)
 refine (ephemeralIn_run b H0 C0 _ E _ hE hb3 g hH0 hC0 hEb).mono ?_
 rintro x v6 ⟨rfl, g', t1⟩
 replace g0 := g0.tou t1 (by omega)
 replace gH := gH.tou t1 (by omega)
 replace gS := gS.tou t1 (by omega)
 replace gi := gi.tou t1 (by omega)
 replace hE := hE.touch t1 hb3
 replace hB := belowT hB t1 hbS (Nat.le_refl _)
 clear t1
 
 clear g hre
 have g := g'
 clear g'
 rw [hem] at g
 have hC1 : Byts 32 (chn C0 (m.extract 8 40) 0) := chn_b _ _ 0 32
 have hH1 : Byts 32 (mixH H0 (m.extract 8 40)) := mixH_b _ _ 32
 obtain ⟨C1, hC1e⟩ : ∃ X, chn C0 (m.extract 8 40) 0 = X := ⟨_, rfl⟩
 obtain ⟨H1, hH1e⟩ : ∃ X, mixH H0 (m.extract 8 40) = X := ⟨_, rfl⟩
 rw [hC1e] at g hC1
 rw [hH1e] at g hH1
 have hmf : ∀ (fn : Fn) (first cap : Array Value) (w : World), (Instr.makeFunc fn first cap).run Tryz.prog w = .ok (.func fn first cap) w := fun _ _ _ _ => rfl
 have hre := ini_e gi
 go_wp2_with (first | (refine ld_arr isArr32 g0 (by rfl) ?_) | (refine wl_value rfl (exec_ldmid rfl isArr32 (by rfl) hre) ?_))
 have hzE : shZ O E = true := by rw [← hEe]; exact hz1
 refine (secretKey_run b H1 C1 _ O E _ hE g hC1 hO hEb hzE).mono ?_
 rintro x v7 ⟨rfl, g', t1⟩
 replace g0 := g0.tou t1 (by omega)
 replace gH := gH.tou t1 (by omega)
 replace gS := gS.tou t1 (by omega)
 replace gi := gi.tou t1 (by omega)
 replace hE := hE.touch t1 hb3
 replace hB := belowT hB t1 hbS (Nat.le_refl _)
 clear t1
 
 clear g
 have g := g'
 clear g'
 obtain ⟨L, hLe⟩ : ∃ X, chn C1 (mkS 32 (shF O E)) = X := ⟨_, rfl⟩
 have hL : ∀ i, Byts 32 (L i) := fun i => hLe ▸ chn_b _ _ i 32
 rw [hLe] at g
 have hcl : _ := gi.at 33 (by omega)
 replace hcl : _ = some (Value.string kx) := hcl
 go_wp2_with fail
 have hPe : openT (L 1) non0 kx (mkS 32 H1) = acP O H0 C0 m := by simp only [acP, acL, acH1, acE, hkx, hEe, hC1e, hH1e, hLe]
 have hzp : (openT (L 1) non0 kx (mkS 32 H1)).2 = 0 := by rw [hPe]; exact hz2
 refine (open_ok b H1 (L 0) (L 1) kx _ hE hb3 g hH1 (hL 1) (by omega) hzp).mono ?_
 rintro x v8 ⟨rfl, g', t1⟩
 replace g0 := g0.tou t1 (by omega)
 replace gH := gH.tou t1 (by omega)
 replace gS := gS.tou t1 (by omega)
 replace gi := gi.tou t1 (by omega)
 replace hE := hE.touch t1 hb3
 replace hB := belowT hB t1 hbS (Nat.le_refl _)
 clear t1
 
 clear g hcl
 have g := g'
 clear g'
 obtain ⟨H2, hH2e⟩ : ∃ X, mixH H1 kx = X := ⟨_, rfl⟩
 rw [hH2e] at g
 have hH2 : Byts 32 H2 := hH2e ▸ mixH_b _ _ 32
 have hps : (openT (L 1) non0 kx (mkS 32 H1)).1.size = 32 := by rw [open_size hzp]; omega
 obtain ⟨p, hpe⟩ : ∃ X, (openT (L 1) non0 kx (mkS 32 H1)).1 = X := ⟨_, rfl⟩
 rw [hpe] at hps ⊢
 go_wp2_with fail
 have hpx : p.extract 0 (0 + 32) = p := by rw [Nat.zero_add, ← hps]; exact ByteArray.extract_zero_size
 refine (keyAt_run p 0 _ (by omega) (by omega)).mono ?_
 rintro x v9 ⟨rfl, hb⟩
 replace g0 := g0.kept hb
 replace gH := gH.kept hb
 replace gS := gS.kept hb
 replace gi := gi.kept hb
 replace g := g.kept hb
 replace hE := hE.kept hb
 replace hB := hB.trans (hb.mono hB.size)
 clear hb
 
 rw [hpx]
 have hKb : Byts 32 (txt p) := fun j _ => txt_b _ j
 obtain ⟨Q, hQ⟩ : ∃ X, txt p = X := ⟨_, rfl⟩
 rw [hQ] at hKb ⊢
 have ldg0 := g0.lt
 have ldgH := gH.lt
 have ldgS := gS.lt
 have ldgi := gi.lt
 have ldg := g.lt
 have ldB := hB.size
 have ldE := hE.two
 go_wp2_with (refine wl_alloc32 ?_; intro v10a gp0 hb; refine Hid.out ?_)
 replace g0 := g0.kept hb
 replace gH := gH.kept hb
 replace gS := gS.kept hb
 replace gi := gi.kept hb
 replace g := g.kept hb
 replace hE := hE.kept hb
 replace hB := hB.trans (hb.mono hB.size)
 clear hb
 refine Hid.mk ?_
 go_wp2_with (refine st_arr isArr32 gp0 (by rfl) (by rfl) ?_; intro v10b gp o6; refine Hid.out ?_)
 replace g0 := g0.only o6 (by omega)
 replace gH := gH.only o6 (by omega)
 replace gS := gS.only o6 (by omega)
 replace gi := gi.only o6 (by omega)
 replace g := g.only o6 (by omega)
 replace hE := hE.only o6 (by omega)
 replace hB := hB.trans (o6.below (by omega))
 clear o6
 clear gp0
 refine Hid.mk ?_
 
 obtain ⟨bp, hbp⟩ : ∃ bp, v9.heap.size = bp := ⟨_, rfl⟩
 rw [hbp] at gp ldg0 ldgH ldgS ldgi ldg ldB ldE ⊢
 clear hbp
 go_wp2_with (first | (refine ld_arr isArr32 g0 (by rfl) ?_) | (refine ld_arr isArr32 gp (by rfl) ?_))
 have hQb := hKb
 have hKe : Q = acK O H0 C0 m := by rw [← hQ, ← hpe, hPe]; rfl
 have hzQ : shZ O Q = true := by rw [hKe]; exact hz3
 refine (secretKey_run b H2 (L 0) _ O Q _ hE g (hL 0) hO hQb hzQ).mono ?_
 rintro x v11 ⟨rfl, g', t1⟩
 replace g0 := g0.tou t1 (by omega)
 replace gH := gH.tou t1 (by omega)
 replace gS := gS.tou t1 (by omega)
 replace gi := gi.tou t1 (by omega)
 replace gp := gp.tou t1 (by omega)
 replace hE := hE.touch t1 hb3
 replace hB := belowT hB t1 hbS (Nat.le_refl _)
 clear t1
 
 clear g
 have g := g'
 clear g'
 obtain ⟨M, hMe⟩ : ∃ X, chn (L 0) (mkS 32 (shF O Q)) = X := ⟨_, rfl⟩
 have hM : ∀ i, Byts 32 (M i) := fun i => hMe ▸ chn_b _ _ i 32
 rw [hMe] at g
 have hcl : _ := gi.at 34 (by omega)
 replace hcl : _ = some (Value.string sx) := hcl
 go_wp2_with fail
 have hTe : openT (M 1) non0 sx (mkS 32 H2) = acT O H0 C0 m := by simp only [acT, acM, acL, acH2, acH1, acE, hkx, hsxe, hEe, hC1e, hH1e, hLe, hH2e, ← hKe, hMe]
 have hzt : (openT (M 1) non0 sx (mkS 32 H2)).2 = 0 := by rw [hTe]; exact hz4
 refine (open_ok b H2 (M 0) (M 1) sx _ hE hb3 g hH2 (hM 1) (by omega) hzt).mono ?_
 rintro x v12 ⟨rfl, g', t1⟩
 replace g0 := g0.tou t1 (by omega)
 replace gH := gH.tou t1 (by omega)
 replace gS := gS.tou t1 (by omega)
 replace gi := gi.tou t1 (by omega)
 replace gp := gp.tou t1 (by omega)
 replace hE := hE.touch t1 hb3
 replace hB := belowT hB t1 hbS (Nat.le_refl _)
 clear t1
 
 clear g hcl
 have g := g'
 clear g'
 obtain ⟨H3, hH3e⟩ : ∃ X, mixH H2 sx = X := ⟨_, rfl⟩
 rw [hH3e] at g
 have hH3 : Byts 32 H3 := hH3e ▸ mixH_b _ _ 32
 have hts : (openT (M 1) non0 sx (mkS 32 H2)).1.size = 12 := by rw [open_size hzt]; omega
 obtain ⟨t, hte⟩ : ∃ X, (openT (M 1) non0 sx (mkS 32 H2)).1 = X := ⟨_, rfl⟩
 rw [hte] at hts ⊢
 have leg0 := g0.lt
 have legH := gH.lt
 have legS := gS.lt
 have legi := gi.lt
 have legp := gp.lt
 have leg := g.lt
 have leB := hB.size
 have leE := hE.two
 
 go_wp2_with (refine wl_bytes (by rfl) hts ?_; intro v13 cp r1 hb; refine Hid.out ?_)
 replace g0 := g0.kept hb
 replace gH := gH.kept hb
 replace gS := gS.kept hb
 replace gi := gi.kept hb
 replace gp := gp.kept hb
 replace g := g.kept hb
 replace hE := hE.kept hb
 replace hB := hB.trans (hb.mono hB.size)
 clear hb
 
 have hr1 := row_range r1
 clear r1
 refine Hid.mk ?_
 have lfg0 := g0.lt
 have lfgH := gH.lt
 have lfgS := gS.lt
 have lfgi := gi.lt
 have lfgp := gp.lt
 have lfg := g.lt
 have lfB := hB.size
 have lfE := hE.two
 
 go_wp2_with (first | (refine wl_value rfl (exec_toa rfl (by rfl) (toa12 _ _ _)) ?_) | (refine wl_value rfl (exec_ldmid rfl isArr12 (by rfl) hr1) ?_) | (refine wl_alloc12 ?_; intro v14 gt0 hb; refine Hid.out ?_))
 replace g0 := g0.kept hb
 replace gH := gH.kept hb
 replace gS := gS.kept hb
 replace gi := gi.kept hb
 replace gp := gp.kept hb
 replace g := g.kept hb
 replace hE := hE.kept hb
 replace hB := hB.trans (hb.mono hB.size)
 clear hb
 
 clear hr1
 refine Hid.mk ?_
 go_wp2_with (refine st_arr isArr12 gt0 (by rfl) (by rfl) ?_; intro v15 gt o6; refine Hid.out ?_)
 replace g0 := g0.only o6 (by omega)
 replace gH := gH.only o6 (by omega)
 replace gS := gS.only o6 (by omega)
 replace gi := gi.only o6 (by omega)
 replace gp := gp.only o6 (by omega)
 replace g := g.only o6 (by omega)
 replace hE := hE.only o6 (by omega)
 replace hB := hB.trans (o6.below (by omega))
 clear o6
 
 clear gt0
 refine Hid.mk ?_
 go_wp2_with fail
 obtain ⟨bt, hbt⟩ : ∃ bt, v13.heap.size = bt := ⟨_, rfl⟩
 rw [hbt] at gt lfg0 lfgH lfgS lfgi lfgp lfg lfB lfE ⊢
 clear hbt
 have HI : Hid (∀ u, Touch (fun x => x = (w.heap.size + 1) ∨ x = (w.heap.size + 1 + 1)) v15 u → SAt u bi 118 35 (iniV n4 E kx sx)) := Hid.mk (fun u hu => gi.block (hu.block bi gi.lt (by omega)))
 have HG : Hid (∀ u, Touch (fun x => x = (w.heap.size + 1) ∨ x = (w.heap.size + 1 + 1)) v15 u → KtAt u b H3 (M 0) (M 1)) := Hid.mk (fun u hu => g.block (hu.block b g.lt (by omega)))
 have HQ : Hid (∀ u, Touch (fun x => x = (w.heap.size + 1) ∨ x = (w.heap.size + 1 + 1)) v15 u → ArrAt u bp .u8 22 32 Q) := Hid.mk (fun u hu => gp.block (hu.block bp gp.lt (by omega)))
 have HT2 : Hid (∀ u, Touch (fun x => x = (w.heap.size + 1) ∨ x = (w.heap.size + 1 + 1)) v15 u → ArrAt u bt .u8 26 12 (txt t)) := Hid.mk (fun u hu => gt.block (hu.block bt gt.lt (by omega)))
 refine wp_region3 (Touch (fun x => x = (w.heap.size + 1) ∨ x = (w.heap.size + 1 + 1)) v15) v15.heap.size
   [((w.heap.size + 1), once (SC 162 hanZ) 31 15 (SC 162 (hanV H3 (M 0) (fun _ => 0) E Q 0 n4))), ((w.heap.size + 1 + 1), once (WA .u8 12 (fun _ => 0)) 26 16 (WA .u8 12 (txt t)))]
   [kv (.pointer (some ⟨b, 0, none⟩)), kv (.pointer (some ⟨b, 0, none⟩)), kv (.pointer (some ⟨b, 0, none⟩)), kv (.agg (WA .u8 32 H3)), kv (.pointer (some ⟨b, 0, none⟩)), kv (.pointer (some ⟨b, 0, none⟩)), kv (.pointer (some ⟨b, 32, none⟩)), kv (.agg (WA .u8 32 (M 0))), kv (.pointer (some ⟨bi, 1, none⟩)), kv (.agg (WA .u8 32 E)), kv (.agg (WA .u8 32 Q)), kv (.pointer (some ⟨bi, 0, none⟩)), kv (.int .u32 n4), kv (.agg (SC 162 (hanV H3 (M 0) (fun _ => 0) E Q 0 n4))), kv (.agg (WA .u8 12 (txt t))), .val fun _ => True, .val fun _ => True]
   [.none, .none, .none, .none, .none, .none, .none, .none, .none, .none, .none, .none, .none, .none, .none, .base 0 1, .base 1 1]
   [some 42, some 43, some 44, some 45, some 46, some 47, some 48, some 49, some 50, some 51, some 52, some 53, some 54, some 55, some 56, none, none]
   [(7, .pointer (some ⟨b, 0, none⟩)), (6, .pointer (some ⟨bi, 0, none⟩)), (8, .pointer (some ⟨bp, 0, none⟩)), (9, .pointer (some ⟨bt, 0, none⟩)), (4, .pointer (some ⟨(w.heap.size + 1), 0, none⟩)), (5, .pointer (some ⟨(w.heap.size + 1 + 1), 0, none⟩))]
   [[], [.slot 0], [.slot 1], [.slot 2], [], [.slot 4], [.slot 5], [.slot 6], [], [.slot 8], [], [], [.slot 11], [.slot 3, .slot 7, .slot 9, .slot 10, .slot 12], [], [.slot 13, .base 0 0], [.slot 14, .base 1 0]]
   [.base 0 1, .base 1 1] [42, 43, 44, 45, 46, 47, 48, 49, 50, 51, 52, 53, 54, 55, 56]
   rfl (by kernel_rfl) ⟨rfl, rfl, rfl, rfl, rfl, rfl, trivial⟩ (touch_le (Below.refl _ v15).drew) (Nat.le_refl _) ⟨⟨gH.lt, obIn gH⟩, ⟨gS.lt, obIn gS⟩, trivial⟩ ⟨⟨(show ((w.heap.size + 1) : Nat) ≠ (w.heap.size + 1 + 1) from by omega), trivial⟩, trivial, trivial⟩ (touch_GT (fun k hk => by simpa using hk))
   ⟨
    (fun Q aq ww own hS hBg fr kn => .inl ⟨trivial, fun K hK => wp_value (exec_move rfl fr.1) (hK _ _ ⟨Touch.refl _ _, rfl⟩)⟩),
    (fun Q aq ww own hS hBg fr kn => .inl ⟨trivial, fun K hK => wp_value (exec_nilc rfl kn.1) (hK _ _ ⟨Touch.refl _ _, rfl⟩)⟩),
    (fun Q aq ww own hS hBg fr kn => .inl ⟨trivial, fun K hK => wp_value (exec_fk (k := 0) rfl kn.1 (by decide)) (hK _ _ ⟨Touch.refl _ _, rfl⟩)⟩),
    (fun Q aq ww own hS hBg fr kn => .inl ⟨trivial, fun K hK => wp_value (exec_ldmid rfl isArr32 kn.1 (HG.out ww hS).h) (hK _ _ ⟨Touch.refl _ _, rfl⟩)⟩),
    (fun Q aq ww own hS hBg fr kn => .inl ⟨trivial, fun K hK => wp_value (exec_move rfl fr.1) (hK _ _ ⟨Touch.refl _ _, rfl⟩)⟩),
    (fun Q aq ww own hS hBg fr kn => .inl ⟨trivial, fun K hK => wp_value (exec_nilc rfl kn.1) (hK _ _ ⟨Touch.refl _ _, rfl⟩)⟩),
    (fun Q aq ww own hS hBg fr kn => .inl ⟨trivial, fun K hK => wp_value (exec_fk (k := 1) rfl kn.1 (by decide)) (hK _ _ ⟨Touch.refl _ _, rfl⟩)⟩),
    (fun Q aq ww own hS hBg fr kn => .inl ⟨trivial, fun K hK => wp_value (exec_ldmid rfl isArr32 kn.1 (HG.out ww hS).c) (hK _ _ ⟨Touch.refl _ _, rfl⟩)⟩),
    (fun Q aq ww own hS hBg fr kn => .inl ⟨trivial, fun K hK => wp_value (exec_fi (k := 1) rfl fr.2.1 (by decide)) (hK _ _ ⟨Touch.refl _ _, rfl⟩)⟩),
    (fun Q aq ww own hS hBg fr kn => .inl ⟨trivial, fun K hK => wp_value (exec_ldmid rfl isArr32 kn.1 (ini_e (HI.out ww hS))) (hK _ _ ⟨Touch.refl _ _, rfl⟩)⟩),
    (fun Q aq ww own hS hBg fr kn => .inl ⟨trivial, fun K hK => wp_value (look_arr rfl isArr32 (HQ.out ww hS) fr.2.2.1) (hK _ _ ⟨Touch.refl _ _, rfl⟩)⟩),
    (fun Q aq ww own hS hBg fr kn => .inl ⟨trivial, fun K hK => wp_value (exec_fi (k := 0) rfl fr.2.1 (by decide)) (hK _ _ ⟨Touch.refl _ _, rfl⟩)⟩),
    (fun Q aq ww own hS hBg fr kn => .inl ⟨trivial, fun K hK => wp_value (exec_ld rfl kn.1 (run_load32 ((HI.out ww hS).at 0 (by omega)))) (hK _ _ ⟨Touch.refl _ _, rfl⟩)⟩),
    (fun Q aq ww own hS hBg fr kn => .inl ⟨trivial, fun K hK => wp_value (exec_hanA rfl kn.1 kn.2.1 kn.2.2.1 kn.2.2.2.1 kn.2.2.2.2.1) (hK _ _ ⟨Touch.refl _ _, rfl⟩)⟩),
    (fun Q aq ww own hS hBg fr kn => .inl ⟨trivial, fun K hK => wp_value (look_arr rfl isArr12 (HT2.out ww hS) fr.2.2.2.1) (hK _ _ ⟨Touch.refl _ _, rfl⟩)⟩),
    (fun Q aq ww own hS hBg fr kn => .inl ⟨trivial, fun K hK => act_st7 rfl isHand (hanV_one _ _ _ _ _ _ _) fr.2.2.2.2.1 kn.1 (obAt kn.2.1) (fun w2 hg ho => hK _ _ ⟨⟨touch_only ho, obIn hg⟩, trivial⟩)⟩),
    (fun Q aq ww own hS hBg fr kn => .inl ⟨trivial, fun K hK => act_arr rfl isArr12 fr.2.2.2.2.2.1 kn.1 (obAt kn.2.1) (fun w2 hg ho => hK _ _ ⟨⟨touch_only ho, obIn hg⟩, trivial⟩)⟩),
    trivial⟩ ?_
 intro vs own v16 hT1 hsz kn inj
 clear inj hsz
 have q0 : SAt v16 (w.heap.size + 1) 31 162 (hanV H3 (M 0) (fun _ => 0) E Q 0 n4) := obAt kn.1
 have q1 : ArrAt v16 (w.heap.size + 1 + 1) .u8 26 12 (txt t) := obAt kn.2.1
 clear kn HG HI HQ HT2
 replace hB : Below w.heap.size w v16 := ⟨hT1.os.trans hB.os, hT1.tape.trans hB.tape, hT1.output.trans hB.output, Nat.le_trans hB.size hT1.size, fun k hk => (hT1.block k (by have := hB.size; omega) (by omega)).trans (hB.block k hk)⟩
 simp only [putAll, Act.put, List.setIfInBounds_toArray, List.set_cons_zero, List.set_cons_succ]
 go_wp2_with fail
 refine bodyPost_ret (v := .tuple #[.agg (SC 162 (hanV H3 (M 0) (fun _ => 0) E Q 0 n4)), .agg (WA .u8 12 (txt t))]) (res_sa Tryz.results46 isHand isArr12 q0 q1 (by rfl) (by rfl)) rfl ⟨?_, hB⟩
 have e1 : acH3 H0 m = H3 := by simp only [acH3, acH2, acH1, hkx, hsxe, hH1e, hH2e, hH3e]
 have e2 : acM O H0 C0 m = M := by simp only [acM, acL, acE, hEe, hC1e, hLe, ← hKe, hMe]
 have e3 : acE m = E := hEe
 rw [e1, e2, e3, ← hKe, ← hTe, hte, hn4]
end Go.Proofs.YthghcjepdhkfdaaGreatDoor

/-
  Own text. The document's answer for noise: stamps.
-/
namespace Go.Proofs.YthghcjepdhkfdaaGreatDoor
open Go.RowKit Go.Proofs
set_option maxRecDepth 100000
theorem isA12 : IsArr 26 12 := ⟨_, _, Tryz.underlying26, by kernel_rfl⟩
def latF (a b : Nat → Int) : Nat → Nat → Bool
 | 0, _ => false
 | n + 1, i => if a i = b i then latF a b n (i + 1) else decide (b i < a i)
def nowC (n : Int) : Int := if n < 0 then 0 else if 1099511627776 < n then 1099511627776 else n
def stmF (n : Int) (j : Nat) : Int := if j < 8 then (4611686018427387914 + nowC n / 1000) / 256 ^ (7 - j) % 256 else nowC n % 1000 * 1000000 / 256 ^ (11 - j) % 256
end Go.Proofs.YthghcjepdhkfdaaGreatDoor

/-
  Own text. Stamps go on with the time: the numbers.
-/
namespace Go.Proofs.YthghcjepdhkfdaaGreatDoor
open Go.RowKit Go.Proofs
set_option maxRecDepth 100000
def rowV (a : Nat → Int) : Nat → Nat → Int
 | 0, _ => 0
 | n + 1, i => a i * 256 ^ n + rowV a n (i + 1)
theorem rowV_b (a : Nat → Int) : ∀ (n i : Nat), (∀ j, j < n → 0 ≤ a (i + j) ∧ a (i + j) < 256) → 0 ≤ rowV a n i ∧ rowV a n i < 256 ^ n
 | 0, _, _ => by unfold rowV; omega
 | n + 1, i, h => by
  have ih := rowV_b a n (i + 1) (fun j hj => by have := h (j + 1) (by omega); rwa [show i + (j + 1) = i + 1 + j by omega] at this)
  have h0 := h 0 (by omega)
  rw [Nat.add_zero] at h0
  unfold rowV
  have hp : (0 : Int) < 256 ^ n := Int.pow_pos (by omega)
  have h1 : 0 ≤ a i * 256 ^ n := Int.mul_nonneg h0.1 (by omega)
  have h2 : a i * 256 ^ n ≤ 255 * 256 ^ n := Int.mul_le_mul_of_nonneg_right (by omega) (by omega)
  rw [Int.pow_succ]
  omega
theorem rowV_lt {p x y u v : Int} (hu : 0 ≤ u ∧ u < p) (hv : 0 ≤ v ∧ v < p) (h : x < y) : x * p + u < y * p + v := by
 have h1 : (x + 1) * p ≤ y * p := Int.mul_le_mul_of_nonneg_right (by omega) (by omega)
 rw [Int.add_mul, Int.one_mul] at h1
 omega
theorem latF_row (a b : Nat → Int) : ∀ (n i : Nat), (∀ j, j < n → 0 ≤ a (i + j) ∧ a (i + j) < 256) → (∀ j, j < n → 0 ≤ b (i + j) ∧ b (i + j) < 256) → (latF a b n i = true ↔ rowV b n i < rowV a n i) ∧ (rowV a n i = rowV b n i → ∀ j, j < n → a (i + j) = b (i + j))
 | 0, _, _, _ => ⟨by unfold latF rowV; simp, fun _ j hj => by omega⟩
 | n + 1, i, ha, hb => by
  have sa : ∀ j, j < n → 0 ≤ a (i + 1 + j) ∧ a (i + 1 + j) < 256 := fun j hj => by have := ha (j + 1) (by omega); rwa [show i + (j + 1) = i + 1 + j by omega] at this
  have sb : ∀ j, j < n → 0 ≤ b (i + 1 + j) ∧ b (i + 1 + j) < 256 := fun j hj => by have := hb (j + 1) (by omega); rwa [show i + (j + 1) = i + 1 + j by omega] at this
  have ih := latF_row a b n (i + 1) sa sb
  have ra := rowV_b a n (i + 1) sa
  have rb := rowV_b b n (i + 1) sb
  unfold latF rowV
  by_cases e : a i = b i
  ·rw [if_pos e, e]
   refine ⟨by rw [ih.1]; omega, fun h j hj => ?_⟩
   have h2 := ih.2 (by omega)
   match j, hj with
   | 0, _ => rw [Nat.add_zero]; exact e
   | j + 1, hj => have := h2 j (by omega); rwa [show i + 1 + j = i + (j + 1) by omega] at this
  ·rw [if_neg e]
   rcases Int.lt_or_gt_of_ne e with h | h
   ·have := rowV_lt ra rb h
    exact ⟨by simp; omega, fun h => by omega⟩
   ·have := rowV_lt rb ra h
    exact ⟨by simp; omega, fun h => by omega⟩
theorem lat_asym {a b : Nat → Int} (ha : Byts 12 a) (hb : Byts 12 b) : ¬ (latF a b 12 0 = true ∧ latF b a 12 0 = true) := by
 have h1 := latF_row a b 12 0 (fun j hj => by rw [Nat.zero_add]; exact ha j hj) (fun j hj => by rw [Nat.zero_add]; exact hb j hj)
 have h2 := latF_row b a 12 0 (fun j hj => by rw [Nat.zero_add]; exact hb j hj) (fun j hj => by rw [Nat.zero_add]; exact ha j hj)
 rw [h1.1, h2.1]
 omega
theorem lat_tri {a b : Nat → Int} (ha : Byts 12 a) (hb : Byts 12 b) : (∀ j, j < 12 → a j = b j) ↔ (latF a b 12 0 = false ∧ latF b a 12 0 = false) := by
 have h1 := latF_row a b 12 0 (fun j hj => by rw [Nat.zero_add]; exact ha j hj) (fun j hj => by rw [Nat.zero_add]; exact hb j hj)
 have h2 := latF_row b a 12 0 (fun j hj => by rw [Nat.zero_add]; exact hb j hj) (fun j hj => by rw [Nat.zero_add]; exact ha j hj)
 have e1 : latF a b 12 0 = false ↔ ¬ rowV b 12 0 < rowV a 12 0 := by rw [← h1.1]; simp
 have e2 : latF b a 12 0 = false ↔ ¬ rowV a 12 0 < rowV b 12 0 := by rw [← h2.1]; simp
 rw [e1, e2]
 constructor
 ·intro h
  have : rowV a 12 0 = rowV b 12 0 := by
   simp only [rowV, h 0 (by omega), h 1 (by omega), h 2 (by omega), h 3 (by omega), h 4 (by omega), h 5 (by omega), h 6 (by omega), h 7 (by omega), h 8 (by omega), h 9 (by omega), h 10 (by omega), h 11 (by omega), Nat.reduceAdd]
  omega
 ·intro h j hj
  have := h1.2 (by omega) j hj
  rwa [Nat.zero_add] at this
theorem stmF_b (n : Int) (k : Nat) : Byts k (stmF n) := fun j _ => by unfold stmF; split <;> omega
theorem dig8 (A : Int) (h0 : 0 ≤ A) (h1 : A < 18446744073709551616) : A / 72057594037927936 % 256 * 72057594037927936 + (A / 281474976710656 % 256 * 281474976710656 + (A / 1099511627776 % 256 * 1099511627776 + (A / 4294967296 % 256 * 4294967296 + (A / 16777216 % 256 * 16777216 + (A / 65536 % 256 * 65536 + (A / 256 % 256 * 256 + A % 256)))))) = A := by omega
theorem dig4 (A : Int) (h0 : 0 ≤ A) (h1 : A < 4294967296) : A / 16777216 % 256 * 16777216 + (A / 65536 % 256 * 65536 + (A / 256 % 256 * 256 + A % 256)) = A := by omega
theorem nowC_b (n : Int) : 0 ≤ nowC n ∧ nowC n ≤ 1099511627776 := by unfold nowC; split <;> (try split) <;> omega
theorem row_stm (n : Int) : rowV (stmF n) 12 0 = (4611686018427387914 + nowC n / 1000) * 4294967296 + nowC n % 1000 * 1000000 := by
 have hn := nowC_b n
 have hA := dig8 (4611686018427387914 + nowC n / 1000) (by omega) (by omega)
 have hB := dig4 (nowC n % 1000 * 1000000) (by omega) (by omega)
 have e : rowV (stmF n) 12 0 = stmF n 0 * 256 ^ 11 + (stmF n 1 * 256 ^ 10 + (stmF n 2 * 256 ^ 9 + (stmF n 3 * 256 ^ 8 + (stmF n 4 * 256 ^ 7 + (stmF n 5 * 256 ^ 6 + (stmF n 6 * 256 ^ 5 + (stmF n 7 * 256 ^ 4 + (stmF n 8 * 256 ^ 3 + (stmF n 9 * 256 ^ 2 + (stmF n 10 * 256 ^ 1 + (stmF n 11 * 256 ^ 0 + 0))))))))))) := rfl
 have h0 : stmF n 0 = (4611686018427387914 + nowC n / 1000) / 72057594037927936 % 256 := rfl
 have h1 : stmF n 1 = (4611686018427387914 + nowC n / 1000) / 281474976710656 % 256 := rfl
 have h2 : stmF n 2 = (4611686018427387914 + nowC n / 1000) / 1099511627776 % 256 := rfl
 have h3 : stmF n 3 = (4611686018427387914 + nowC n / 1000) / 4294967296 % 256 := rfl
 have h4 : stmF n 4 = (4611686018427387914 + nowC n / 1000) / 16777216 % 256 := rfl
 have h5 : stmF n 5 = (4611686018427387914 + nowC n / 1000) / 65536 % 256 := rfl
 have h6 : stmF n 6 = (4611686018427387914 + nowC n / 1000) / 256 % 256 := rfl
 have h7 : stmF n 7 = (4611686018427387914 + nowC n / 1000) / 1 % 256 := rfl
 have h8 : stmF n 8 = nowC n % 1000 * 1000000 / 16777216 % 256 := rfl
 have h9 : stmF n 9 = nowC n % 1000 * 1000000 / 65536 % 256 := rfl
 have h10 : stmF n 10 = nowC n % 1000 * 1000000 / 256 % 256 := rfl
 have h11 : stmF n 11 = nowC n % 1000 * 1000000 / 1 % 256 := rfl
 rw [Int.ediv_one] at h7 h11
 rw [e, h0, h1, h2, h3, h4, h5, h6, h7, h8, h9, h10, h11]
 clear h0 h1 h2 h3 h4 h5 h6 h7 h8 h9 h10 h11 e
 generalize (4611686018427387914 + nowC n / 1000) / 72057594037927936 % 256 = x0 at *
 generalize (4611686018427387914 + nowC n / 1000) / 281474976710656 % 256 = x1 at *
 generalize (4611686018427387914 + nowC n / 1000) / 1099511627776 % 256 = x2 at *
 generalize (4611686018427387914 + nowC n / 1000) / 4294967296 % 256 = x3 at *
 generalize (4611686018427387914 + nowC n / 1000) / 16777216 % 256 = x4 at *
 generalize (4611686018427387914 + nowC n / 1000) / 65536 % 256 = x5 at *
 generalize (4611686018427387914 + nowC n / 1000) / 256 % 256 = x6 at *
 generalize (4611686018427387914 + nowC n / 1000) % 256 = x7 at *
 generalize nowC n % 1000 * 1000000 / 16777216 % 256 = x8 at *
 generalize nowC n % 1000 * 1000000 / 65536 % 256 = x9 at *
 generalize nowC n % 1000 * 1000000 / 256 % 256 = x10 at *
 generalize nowC n % 1000 * 1000000 % 256 = x11 at *
 rw [← hB, ← hA]
 omega
theorem lat_stm (a b : Int) (ha : 0 ≤ a ∧ a ≤ 1099511627776) (hb : 0 ≤ b ∧ b ≤ 1099511627776) : latF (stmF a) (stmF b) 12 0 = decide (b < a) := by
 have h1 := latF_row (stmF a) (stmF b) 12 0 (fun j hj => stmF_b a (0 + j + 1) _ (by omega)) (fun j hj => stmF_b b (0 + j + 1) _ (by omega))
 rw [row_stm, row_stm] at h1
 have ea : nowC a = a := by unfold nowC; rw [if_neg (by omega), if_neg (by omega)]
 have eb : nowC b = b := by unfold nowC; rw [if_neg (by omega), if_neg (by omega)]
 rw [ea, eb] at h1
 have h2 := h1.1
 have e : ((4611686018427387914 + b / 1000) * 4294967296 + b % 1000 * 1000000 < (4611686018427387914 + a / 1000) * 4294967296 + a % 1000 * 1000000) ↔ b < a := by omega
 rw [e] at h2
 rw [Bool.eq_iff_iff, h2, decide_eq_true_iff]
def lstU (f : Nat → Int) : Nat → Nat → List UInt8
 | 0, _ => []
 | n + 1, i => UInt8.ofNat (f i).toNat :: lstU f n (i + 1)
theorem u8_toNat {x : Int} (h : 0 ≤ x ∧ x < 256) : (UInt8.ofNat x.toNat).toNat = x.toNat := by
 rw [UInt8.toNat_ofNat']
 exact Nat.mod_eq_of_lt (by omega)
theorem u8_lt {x y : Int} (hx : 0 ≤ x ∧ x < 256) (hy : 0 ≤ y ∧ y < 256) : decide (UInt8.ofNat x.toNat < UInt8.ofNat y.toNat) = decide (x < y) := by
 have h : (UInt8.ofNat x.toNat < UInt8.ofNat y.toNat) ↔ x < y := by
  rw [UInt8.lt_iff_toNat_lt, u8_toNat hx, u8_toNat hy]
  omega
 simp only [h]
theorem u8_eq {x y : Int} (hx : 0 ≤ x ∧ x < 256) (hy : 0 ≤ y ∧ y < 256) : (UInt8.ofNat x.toNat == UInt8.ofNat y.toNat) = decide (x = y) := by
 have h : (UInt8.ofNat x.toNat = UInt8.ofNat y.toNat) ↔ x = y := by
  rw [← UInt8.toNat_inj, u8_toNat hx, u8_toNat hy]
  omega
 rw [Bool.eq_iff_iff, beq_iff_eq, h, decide_eq_true_iff]
theorem lst_less (a b : Nat → Int) : ∀ (n i : Nat), (∀ j, j < n → 0 ≤ a (i + j) ∧ a (i + j) < 256) → (∀ j, j < n → 0 ≤ b (i + j) ∧ b (i + j) < 256) → Op.bytesLess (lstU a n i) (lstU b n i) = latF b a n i ∧ ((lstU a n i == lstU b n i) = true ↔ ∀ j, j < n → a (i + j) = b (i + j))
 | 0, _, _, _ => ⟨rfl, by simp [lstU]⟩
 | n + 1, i, ha, hb => by
  have sa : ∀ j, j < n → 0 ≤ a (i + 1 + j) ∧ a (i + 1 + j) < 256 := fun j hj => by have := ha (j + 1) (by omega); rwa [show i + (j + 1) = i + 1 + j by omega] at this
  have sb : ∀ j, j < n → 0 ≤ b (i + 1 + j) ∧ b (i + 1 + j) < 256 := fun j hj => by have := hb (j + 1) (by omega); rwa [show i + (j + 1) = i + 1 + j by omega] at this
  have ih := lst_less a b n (i + 1) sa sb
  have h0 := ha 0 (by omega)
  have h1 := hb 0 (by omega)
  rw [Nat.add_zero] at h0 h1
  unfold lstU latF
  constructor
  ·rw [Op.bytesLess, u8_lt h0 h1, u8_eq h0 h1, ih.1]
   by_cases e : b i = a i
   ·rw [if_pos e, e]; simp
   ·rw [if_neg e]
    have : ¬ a i = b i := fun h => e h.symm
    simp [this]
  ·rw [List.cons_beq_cons, Bool.and_eq_true, u8_eq h0 h1, ih.2, decide_eq_true_iff]
   constructor
   ·rintro ⟨e, h⟩ j hj
    match j, hj with
    | 0, _ => rw [Nat.add_zero]; exact e
    | j + 1, hj => have := h j (by omega); rwa [show i + 1 + j = i + (j + 1) by omega] at this
   ·intro h
    exact ⟨by have := h 0 (by omega); rwa [Nat.add_zero] at this, fun j hj => by have := h (j + 1) (by omega); rwa [show i + (j + 1) = i + 1 + j by omega] at this⟩
theorem lst_gtr {a b : Nat → Int} (ha : Byts 12 a) (hb : Byts 12 b) : (!(Op.bytesLess (lstU a 12 0) (lstU b 12 0) || lstU a 12 0 == lstU b 12 0)) = latF a b 12 0 := by
 have h := lst_less a b 12 0 (fun j hj => by rw [Nat.zero_add]; exact ha j hj) (fun j hj => by rw [Nat.zero_add]; exact hb j hj)
 have h2 := lat_tri ha hb
 have h3 := lat_asym ha hb
 have h4 : ((lstU a 12 0 == lstU b 12 0) = true) ↔ (latF a b 12 0 = false ∧ latF b a 12 0 = false) := by
  rw [h.2, ← h2]
  simp only [Nat.zero_add]
 rw [h.1]
 generalize (lstU a 12 0 == lstU b 12 0) = z at *
 generalize latF a b 12 0 = x at *
 generalize latF b a 12 0 = y at *
 cases x <;> cases y <;> cases z <;> simp_all
end Go.Proofs.YthghcjepdhkfdaaGreatDoor

/-
  Own text. Package noise: stamps.
-/
namespace Go.Proofs.YthghcjepdhkfdaaGreatDoor
open Go.RowKit Go.Proofs
set_option maxRecDepth 100000
theorem sl12v (b : Nat) (w : World) : (Instr.sliceAt 26 (.pointer (some ⟨b, 0, none⟩)) none none none).run Tryz.prog w = .ok (.slice (some ⟨b, 0, none⟩) 12 12) w := by simp [go_sem]
theorem mkS_list (f : Nat → Int) : (mkS 12 f).toList = lstU f 12 0 := by rw [Lib.toList_data]; rfl
theorem gtr12 {a b : Nat → Int} (ha : Byts 12 a) (hb : Byts 12 b) (w : World) : (binOp .gtr 9 (.string (mkS 12 a)) (.string (mkS 12 b))).run Tryz.prog w = .ok (.bool (latF a b 12 0)) w := by
 rw [← lst_gtr ha hb, ← mkS_list, ← mkS_list]
 rfl
set_option maxHeartbeats 1600000 in
theorem Later_run (a b : Nat → Int) (w : World) (ha : Byts 12 a) (hb : Byts 12 b) :
  Calls Tryz.prog 32 #[.agg (WA .u8 12 a), .agg (WA .u8 12 b)] w fun e w' => e = .returned (.bool (latF a b 12 0)) ∧ Below w.heap.size w w' := by
 have g0 : ArrAt ((w.alloc (.cells (WA .u8 12 a) 26)).alloc (.cells (WA .u8 12 b) 26)) w.heap.size .u8 26 12 a := heap_alloc2_old w _ _
 have g1 : ArrAt ((w.alloc (.cells (WA .u8 12 a) 26)).alloc (.cells (WA .u8 12 b) 26)) (w.heap.size + 1) .u8 26 12 b := heap_alloc2_new w _ _
 have hB : Below w.heap.size w ((w.alloc (.cells (WA .u8 12 a) 26)).alloc (.cells (WA .u8 12 b) 26)) := ((Below.refl _ w).alloc (by simp) _).alloc (by simp) _
 have HA := Hid.mk ha
 have HBB := Hid.mk hb
 have HZ := Hid.mk (gtr12 ha hb)
 generalize latF a b 12 0 = z at *
 go_enter Tryz.func32, Tryz.ntmps32
 go_wp2_with fail
 refine wp_gen (fun v => ArrAt v w.heap.size .u8 26 12 a ∧ ArrAt v (w.heap.size + 1) .u8 26 12 b ∧ Below w.heap.size w v) ⟨g0, g1, hB⟩ ?_
 clear g0 g1 hB
 rintro v0 ⟨g0, g1, hB⟩
 have HG0 : Hid (∀ u, Below v0.heap.size v0 u → ArrAt u w.heap.size .u8 26 12 a) := Hid.mk (fun u hu => g0.kept hu)
 have HG1 : Hid (∀ u, Below v0.heap.size v0 u → ArrAt u (w.heap.size + 1) .u8 26 12 b) := Hid.mk (fun u hu => g1.kept hu)
 refine wp_region3 (Below v0.heap.size v0) v0.heap.size
   ([] : List (Nat × Cont))
   [kv (.slice (some ⟨w.heap.size, 0, none⟩) 12 12), kv (.string (mkS 12 a)), kv (.slice (some ⟨(w.heap.size + 1), 0, none⟩) 12 12), kv (.string (mkS 12 b)), kv (.bool z), kv (.bool z)]
   [.none, .none, .none, .none, .none, .none]
   [some 5, some 6, some 7, some 8, some 9, some 4]
   [(2, .pointer (some ⟨w.heap.size, 0, none⟩)), (3, .pointer (some ⟨(w.heap.size + 1), 0, none⟩))]
   [[], [.slot 0], [], [.slot 2], [.slot 1, .slot 3], [.slot 4]]
   [.slot 5] [5, 6, 7, 8, 9, 4]
   rfl (by kernel_rfl) ⟨rfl, rfl, trivial⟩ (Below.refl _ v0).drew (Nat.le_refl _) trivial trivial (below_G (Nat.le_refl _) trivial)
   ⟨
    (fun Q aq ww own hS hBg fr kn => .inl ⟨trivial, fun K hK => wp_value (exec_sl rfl fr.1 (sl12v w.heap.size ww)) (hK _ _ ⟨Touch.refl _ _, rfl⟩)⟩),
    (fun Q aq ww own hS hBg fr kn => .inl ⟨trivial, fun K hK => wp_value (exec_conv rfl kn.1 (str_back 12 w.heap.size 12 ww 12 a (HG0.out ww hS).row HA.out rfl)) (hK _ _ ⟨Touch.refl _ _, rfl⟩)⟩),
    (fun Q aq ww own hS hBg fr kn => .inl ⟨trivial, fun K hK => wp_value (exec_sl rfl fr.2.1 (sl12v (w.heap.size + 1) ww)) (hK _ _ ⟨Touch.refl _ _, rfl⟩)⟩),
    (fun Q aq ww own hS hBg fr kn => .inl ⟨trivial, fun K hK => wp_value (exec_conv rfl kn.1 (str_back 12 (w.heap.size + 1) 12 ww 12 b (HG1.out ww hS).row HBB.out rfl)) (hK _ _ ⟨Touch.refl _ _, rfl⟩)⟩),
    (fun Q aq ww own hS hBg fr kn => .inl ⟨trivial, fun K hK => wp_value (exec_bin2 rfl kn.1 kn.2.1 rfl (HZ.out ww)) (hK _ _ ⟨Touch.refl _ _, rfl⟩)⟩),
    (fun Q aq ww own hS hBg fr kn => .inl ⟨trivial, fun K hK => wp_value (exec_assign rfl kn.1) (hK _ _ ⟨Touch.refl _ _, rfl⟩)⟩),
    trivial⟩ ?_
 intro vs own v5 hB5 hs5 kn inj
 clear inj hs5 HG0 HG1
 have e4 : vs 4 = _ := kn.1
 clear kn
 simp only [putAll, Act.put, List.setIfInBounds_toArray, List.set_cons_zero, List.set_cons_succ, e4]
 go_wp2_with fail
 go_ret
 exact ⟨rfl, hB.trans (hB5.mono hB.size)⟩
def hiD (N : Int) (k j : Nat) : Int := N / 256 ^ (k - 1 - j) % 256
theorem hiD_b (N : Int) (k n : Nat) : Byts n (hiD N k) := fun j _ => by unfold hiD; omega
set_option maxHeartbeats 4000000 in
theorem highest_run (N : Int) (k : Nat) (w : World) (hk : k ≤ 8) :
  Calls Tryz.prog 56 #[.int .u64 N, .int .i64 (k : Int)] w fun e w' => e = .returned (.string (mkS k (hiD N k))) ∧ Below w.heap.size w w' := by
 have hkI : (k : Int) ≤ 8 := by omega
 go_enter Tryz.func56, Tryz.ntmps56
 go_wp2_with (refine wl_makeB (by rfl) (by rfl) (by omega) ?_; intro v1 g1 hB; refine Hid.out ?_)
 refine Hid.mk ?_
 go_wp2_with fail
 go_loopg [11] k (fun gm iv v => ∃ i : Nat, Hid (gm + i = k) ∧ iv = .int .i64 (i : Int) ∧ ArrAt v w.heap.size .u8 5 k (fun j => if j < i then hiD N k j else 0) ∧ Below w.heap.size w v)
 case atStart => exact ⟨0, Hid.mk rfl, rfl, g1.congr (fun j _ => by rw [if_neg (by omega)]), hB⟩
 case round =>
  clear g1 hB
  obtain ⟨i, HI, rfl, g1, hB⟩ := hrel
  have hi8 : i ≤ k := by have := HI.out; omega
  by_cases hil : i < k
  ·have hiI : (i : Int) < (k : Int) := by omega
   have c0 := g1.cell i hil
   have f0 := g1.free i
   have hpw : (2 : Int) ^ (8 * (k - 1 - i)) = 256 ^ (k - 1 - i) := by rw [Int.pow_mul]; rfl
   have g2 := Hid.mk ((g1.set i (N / 2 ^ (8 * (k - 1 - i)) % 256) hil).congr (s' := fun j => if j < i + 1 then hiD N k j else 0) (fun j _ => by
    unfold upd
    by_cases e : j = i
    ·subst e; rw [if_pos rfl, if_pos (by omega), hpw]; rfl
    ·rw [if_neg e]
     show (if j < i then hiD N k j else 0) = _
     by_cases h : j < i
     ·rw [if_pos h, if_pos (by omega)]
     ·rw [if_neg h, if_neg (by omega)]))
   clear hpw
   go_wp2_with fail
   go_roundg (k - (i + 1))
   case rel => exact ⟨i + 1, Hid.mk (by omega), by go_num, g2.out, Below.setCell (p := ⟨w.heap.size, i, none⟩) hB (by simp) _⟩
   case measure => have := HI.out; omega
  ·have hi2 : i = k := by omega
   subst hi2
   replace g1 := g1.congr (s' := hiD N i) (fun j hj => by rw [if_pos hj])
   have hcv := str_back i w.heap.size i wr i (hiD N i) g1.row (hiD_b N i i) rfl
   go_wp2_with fail
   go_ret
   exact ⟨rfl, hB⟩
end Go.Proofs.YthghcjepdhkfdaaGreatDoor

/-
  Own text. Package noise: a time as twelve bytes.
-/
namespace Go.Proofs.YthghcjepdhkfdaaGreatDoor
open Go.RowKit Go.Proofs
set_option maxRecDepth 100000
theorem stm_cat (n : Int) : ∀ j, j < 12 → txt (mkS 8 (hiD (4611686018427387914 + nowC n / 1000) 8) ++ mkS 4 (hiD (nowC n % 1000 * 1000000) 4)) j = stmF n j := fun j hj => by
 rw [txt_append, mkS_size]
 unfold stmF
 by_cases h : j < 8
 ·rw [if_pos h, if_pos h, txt_mkS (hiD_b _ 8 8 j h) h]
  unfold hiD
  rw [show 8 - 1 - j = 7 - j by omega]
 ·rw [if_neg h, if_neg h, txt_mkS (hiD_b _ 4 4 (j - 8) (by omega)) (by omega)]
  unfold hiD
  rw [show 4 - 1 - (j - 8) = 11 - j by omega]
theorem exec_max {a : Act} {o : Oper} {w : World} {x y : Operand} (ho : o.op = .call { callee := .builtin .max, args := #[x, y], argTypes := #[3, 3] }) {m n : Int} (hx : a.eval x = .int .i64 m) (hy : a.eval y = .int .i64 n) : (execOp a.eval o).run Tryz.prog w = .ok (.value (.int .i64 (max m n))) w := by
 have h : (if n > m then n else m) = max m n := by split <;> omega
 simp [execOp, ho, resolve, invoke, builtin, hx, hy, run_max_int2, h]
theorem exec_min {a : Act} {o : Oper} {w : World} {x y : Operand} (ho : o.op = .call { callee := .builtin .min, args := #[x, y], argTypes := #[3, 3] }) {m n : Int} (hx : a.eval x = .int .i64 m) (hy : a.eval y = .int .i64 n) : (execOp a.eval o).run Tryz.prog w = .ok (.value (.int .i64 (min m n))) w := by
 have h : (if n < m then n else m) = min m n := by split <;> omega
 simp [execOp, ho, resolve, invoke, builtin, hx, hy, run_min_int2, h]
set_option maxHeartbeats 4000000 in
theorem Stamp_run (n : Int) (w : World) : Calls Tryz.prog 17 #[.int .i64 n] w fun e w' => e = .returned (.agg (WA .u8 12 (stmF n))) ∧ Below w.heap.size w w' := by
 have hN := nowC_b n
 have hmx : min (max n 0) 1099511627776 = nowC n := by unfold nowC; split <;> (try split) <;> omega
 have g0 : ArrAt (w.alloc (.cells (WA .u8 12 fun _ => 0) 26)) w.heap.size .u8 26 12 (fun _ => 0) := heap_alloc_new w _
 have hB : Below w.heap.size w (w.alloc (.cells (WA .u8 12 fun _ => 0) 26)) := (Below.refl _ w).alloc (by simp) _
 have HS := Hid.mk (stm_cat n)
 have HMX := Hid.mk hmx
 clear hmx
 generalize nowC n = N at *
 have hq : N.tdiv 1000 = N / 1000 := Int.tdiv_eq_ediv_of_nonneg hN.1
 have hr : N.tmod 1000 = N % 1000 := Int.tmod_eq_emod_of_nonneg hN.1
 obtain ⟨A, hA⟩ : ∃ A, A = N / 1000 := ⟨_, rfl⟩
 obtain ⟨B, hBd⟩ : ∃ B, B = N % 1000 := ⟨_, rfl⟩
 rw [← hA] at hq HS
 rw [← hBd] at hr HS
 have hA2 : 0 ≤ A ∧ A ≤ 1099511628 := by omega
 have hB2 : 0 ≤ B ∧ B < 1000 := by omega
 clear hA hBd
 go_enter Tryz.func17, Tryz.ntmps17
 go_wp2_with (first | (refine wl_value rfl (exec_max rfl (by rfl) (by rfl)) ?_) | (refine wl_value rfl (exec_min rfl (by rfl) (by rfl)) ?_; rw [HMX.out]))
 refine (highest_run (4611686018427387914 + A) 8 _ (by omega)).mono ?_
 rintro e v1 ⟨rfl, hb1⟩
 replace g0 := g0.kept hb1
 replace hB := hB.trans (hb1.mono hB.size)
 clear hb1
 go_wp2_with fail
 refine (highest_run (B * 1000000) 4 _ (by omega)).mono ?_
 rintro e v2 ⟨rfl, hb2⟩
 replace g0 := g0.kept hb2
 replace hB := hB.trans (hb2.mono hB.size)
 clear hb2
 have HL : Hid ((mkS 8 (hiD (4611686018427387914 + A) 8)).size + (mkS 4 (hiD (B * 1000000) 4)).size ≤ 9223372036854775807) := Hid.mk (by rw [mkS_size, mkS_size]; omega)
 have HE : Hid ((mkS 8 (hiD (4611686018427387914 + A) 8) ++ mkS 4 (hiD (B * 1000000) 4)).size = 12) := Hid.mk (by rw [ByteArray.size_append, mkS_size, mkS_size])
 generalize mkS 8 (hiD (4611686018427387914 + A) 8) = X at *
 generalize mkS 4 (hiD (B * 1000000) 4) = Y at *
 go_wp2_with (first | (refine wl_value rfl (exec_catS rfl (by rfl) (by rfl) HL.out) ?_) | (refine wl_bytes (by rfl) HE.out ?_; intro v3 cp r3 hb3; refine Hid.out ?_))
 have hlt := g0.lt
 replace g0 := g0.kept hb3
 replace hB := hB.trans (hb3.mono hB.size)
 have hr3 := row_range r3
 clear hb3 r3
 refine Hid.mk ?_
 go_wp2_with (first | (refine wl_value rfl (exec_toa rfl (by rfl) (toa12 _ _ _)) ?_) | (refine wl_value rfl (exec_ldmid rfl isA12 (by rfl) hr3) ?_) | (refine st_arr isA12 g0 (by rfl) (by rfl) ?_; intro v7 g7 o7; refine Hid.out ?_))
 refine Hid.mk ?_
 go_wp2_with fail
 replace g7 := g7.congr HS.out
 exact bodyPost_ret (res_arr Tryz.results17 isA12 g7 (by rfl)) rfl ⟨rfl, hB.trans (o7.below (Nat.le_refl _))⟩
end Go.Proofs.YthghcjepdhkfdaaGreatDoor

/-
  Own text. What awake of the laws answers.
-/
namespace Go.Proofs.YthghcjepdhkfdaaGreatDoor
open Go.RowKit Go.Proofs
set_option maxRecDepth 100000
def one32 (n : Int) (j : Nat) : Int := if j = 0 then n else 0
theorem one32_b {n : Int} (h : 0 ≤ n ∧ n < 256) : Byts 32 (one32 n) := fun j _ => by unfold one32; split <;> omega
theorem zer_b (k : Nat) : Byts k (fun _ => 0) := fun _ _ => ⟨Int.le_refl 0, of_decide_eq_true rfl⟩
theorem run_b0 (w : World) : (Instr.build 22 #[]).run Tryz.prog w = .ok (.agg (WA .u8 32 fun _ => 0)) w := by kernel_rfl
theorem run_b12 (w : World) : (Instr.build 26 #[]).run Tryz.prog w = .ok (.agg (WA .u8 12 fun _ => 0)) w := by kernel_rfl
theorem run_b1 (w : World) : (Instr.build 22 #[(0, .int .u8 1)]).run Tryz.prog w = .ok (.agg (WA .u8 32 (one32 1))) w := by kernel_rfl
theorem run_b2 (w : World) : (Instr.build 22 #[(0, .int .u8 2)]).run Tryz.prog w = .ok (.agg (WA .u8 32 (one32 2))) w := by kernel_rfl
theorem exec_b0 {a : Act} {o : Oper} {w : World} (ho : o.op = .build 22 #[]) : (execOp a.eval o).run Tryz.prog w = .ok (.value (.agg (WA .u8 32 fun _ => 0))) w := by
 have h := run_b0 w
 unfold execOp
 simp only [ho, List.map_toArray, List.map_nil, Sem.run_bind, h, Result.andThen_ok, Sem.run_pure]
theorem exec_b12 {a : Act} {o : Oper} {w : World} (ho : o.op = .build 26 #[]) : (execOp a.eval o).run Tryz.prog w = .ok (.value (.agg (WA .u8 12 fun _ => 0))) w := by
 have h := run_b12 w
 unfold execOp
 simp only [ho, List.map_toArray, List.map_nil, Sem.run_bind, h, Result.andThen_ok, Sem.run_pure]
theorem exec_b1 {a : Act} {o : Oper} {w : World} (ho : o.op = .build 22 #[(0, .const (.int .u8 1))]) : (execOp a.eval o).run Tryz.prog w = .ok (.value (.agg (WA .u8 32 (one32 1)))) w := by
 have h := run_b1 w
 unfold execOp
 simp only [ho, List.map_toArray, List.map_cons, List.map_nil, Act.eval, Sem.run_bind, h, Result.andThen_ok, Sem.run_pure]
theorem exec_b2 {a : Act} {o : Oper} {w : World} (ho : o.op = .build 22 #[(0, .const (.int .u8 2))]) : (execOp a.eval o).run Tryz.prog w = .ok (.value (.agg (WA .u8 32 (one32 2)))) w := by
 have h := run_b2 w
 unfold execOp
 simp only [ho, List.map_toArray, List.map_cons, List.map_nil, Act.eval, Sem.run_bind, h, Result.andThen_ok, Sem.run_pure]
theorem zeroHandV (w : World) : (zeroValue 31).run Tryz.prog w = .ok (.agg (SC 162 hanZ)) w := by kernel_rfl
theorem wl_allocH {ops : Array Oper} {rest : List Oper} {d : Option Tmp} {t : TypeId} {ps : String} {af : Array Edge} {a : Act} {w : World} {Q : Exit → Act → World → Prop}
  (h : ∀ w', SAt w' w.heap.size 31 162 hanZ → Below w.heap.size w w' → wpList Tryz.prog ops Q rest (a.put d (.pointer (some ⟨w.heap.size, 0, none⟩))) w') :
  wpList Tryz.prog ops Q ({ dst := d, op := .alloc 31, type := t, pos := ps, after := af, guard := none } :: rest) a w :=
 wl_act rfl (act_alloc zeroHandV rfl (fun w' hb hg => h w' hg hb))
theorem tN_zero (k : Int) : Fld.tN k 0 = 0 := by
 unfold Fld.tN
 have h : Fld.ofI (0 % Fld.W255) = 0 := Fld.fp_ext (by rw [Fld.ofI_val]; decide +kernel)
 rw [h, Fld.lad_zero]
 rfl
theorem shZ_zero (k : Nat → Int) : shZ k (fun _ => 0) = false := by
 unfold shZ
 have h : nm (fun _ => 0) = 0 := by decide +kernel
 rw [h, tN_zero]
 rfl
theorem Accept_none (w : World) (hE : Env w) : Calls Tryz.prog 11 #[.agg (WA .u8 32 fun _ => 0), .string ⟨#[]⟩] w fun e w' => e = .returned (.tuple #[.agg (SC 162 hanZ), .agg (WA .u8 12 (fun _ => 0)), .int .i64 10]) ∧ Below w.heap.size w w' :=
 Accept_no (fun _ => 0) ⟨#[]⟩ 10 w hE (fun u hu => accept_form (fun _ => 0) (begH (pubF fun _ => 0)) begC ⟨#[]⟩ u hu (zer_b 32) (begC_b 32) (begH_b _ 32) (fun h => absurd h.1 (by decide)) (fun u hu => beginning_run _ u hu (pubF_b _ 32)))
theorem Begin_none (O E T : Nat → Int) (ix : Int) (w : World) (hE : Env w) (hO : Byts 32 O) (hEk : Byts 32 E) (hT : Byts 12 T) : Calls Tryz.prog 9 #[.agg (WA .u8 32 O), .agg (WA .u8 32 fun _ => 0), .agg (WA .u8 32 E), .agg (WA .u8 12 T), .int .u32 ix] w fun e w' => e = .returned (.tuple #[.string ⟨#[]⟩, .agg (SC 162 hanZ), .int .i64 18]) ∧ Below w.heap.size w w' :=
 Begin_no O (fun _ => 0) E T ix 18 w hE (fun u hu => begin_no1 O (fun _ => 0) E T (begH fun _ => 0) begC ix u hu hO (zer_b 32) hEk hT (begC_b 32) (begH_b _ 32) (shZ_zero E) (fun u hu => beginning_run _ u hu (zer_b 32)))
set_option maxHeartbeats 4000000 in
set_option maxRecDepth 100000 in
theorem awake7_run (w : World) (hE : Env w) : Calls Tryz.prog 8 #[] w fun e w' => e = .returned (.bool true) ∧ Below w.heap.size w w' := by
 have hB : Below w.heap.size w w := Below.refl _ w
 go_enter Tryz.func8, Tryz.ntmps8
 go_wp2_with (refine wl_value rfl (exec_b0 rfl) ?_)
 refine (Accept_none _ hE).mono ?_
 rintro x v1 ⟨rfl, hb⟩
 replace hE := hE.kept hb
 replace hB := hB.trans (hb.mono hB.size)
 clear hb
 have l1 := hB.size
 have k1 := hE.two
 go_wp2_with (refine wl_allocH ?_; intro v2 g1 hb; refine Hid.out ?_)
 replace hE := hE.kept hb
 replace hB := hB.trans (hb.mono hB.size)
 clear hb
 refine Hid.mk ?_
 have l2 := hB.size
 have k2 := hE.two
 have m2 := g1.lt
 go_wp2_with (refine wl_alloc12 ?_; intro v3 g2 hb; refine Hid.out ?_)
 replace hE := hE.kept hb
 replace hB := hB.trans (hb.mono hB.size)
 replace g1 := g1.kept hb
 clear hb
 refine Hid.mk ?_
 go_wp2_with (refine st_st isHand (hanV_one _ _ _ _ _ _ _) g1 (by rfl) (by rfl) ?_; intro v4 g4 o4; refine Hid.out ?_)
 replace hE := hE.only o4 (by omega)
 replace hB := hB.trans (o4.below l1)
 replace g2 := g2.only o4 (by omega)
 clear o4 g1 g4
 refine Hid.mk ?_
 go_wp2_with (refine st_arr isArr12 g2 (by rfl) (by rfl) ?_; intro v5 g5 o5; refine Hid.out ?_)
 replace hE := hE.only o5 (by omega)
 replace hB := hB.trans (o5.below l2)
 clear o5 g2 g5
 refine Hid.mk ?_
 go_wp2_with (first | (refine wl_value rfl (exec_b0 rfl) ?_) | (refine wl_value rfl (exec_b1 rfl) ?_) | (refine wl_value rfl (exec_b2 rfl) ?_) | (refine wl_value rfl (exec_b12 rfl) ?_))
 refine (Begin_none (one32 1) (one32 2) _ 3 _ hE (one32_b (by omega)) (one32_b (by omega)) (zer_b 12)).mono ?_
 rintro x v6 ⟨rfl, hb⟩
 replace hE := hE.kept hb
 replace hB := hB.trans (hb.mono hB.size)
 clear hb
 have l6 := hB.size
 have k6 := hE.two
 go_wp2_with (refine wl_allocH ?_; intro v7 g7 hb; refine Hid.out ?_)
 replace hE := hE.kept hb
 replace hB := hB.trans (hb.mono hB.size)
 clear hb
 refine Hid.mk ?_
 go_wp2_with (refine st_st isHand (hanV_one _ _ _ _ _ _ _) g7 (by rfl) (by rfl) ?_; intro v8 g8 o8; refine Hid.out ?_)
 replace hE := hE.only o8 (by omega)
 replace hB := hB.trans (o8.below l6)
 clear o8 g7 g8
 refine Hid.mk ?_
 go_wp2_with fail
 refine (Stamp_run 1500 _).mono ?_
 rintro x v9 ⟨rfl, hb⟩
 replace hB := hB.trans (hb.mono hB.size)
 clear hb hE
 have l9 := hB.size
 go_wp2_with (refine wl_alloc12 ?_; intro v10 g10 hb; refine Hid.out ?_)
 replace hB := hB.trans (hb.mono hB.size)
 clear hb
 refine Hid.mk ?_
 go_wp2_with (refine st_arr isArr12 g10 (by rfl) (by rfl) ?_; intro v11 g11 o11; refine Hid.out ?_)
 replace hB := hB.trans (o11.below l9)
 clear o11 g10
 have s7 : stmF 1500 7 = 11 := by decide +kernel
 have s8 : stmF 1500 8 = 29 := by decide +kernel
 have c7 := g11.cell 7 (by omega)
 have c8 := g11.cell 8 (by omega)
 rw [s7] at c7
 rw [s8] at c8
 have t21 := lat_stm 2 1 (by omega) (by omega)
 have t11 := lat_stm 1 1 (by omega) (by omega)
 have HS := fun n => stmF_b n 12
 refine Hid.mk ?_
 go_wp2_with fail
 refine (Stamp_run 2 _).mono ?_
 rintro x v12 ⟨rfl, hb⟩
 replace hB := hB.trans (hb.mono hB.size)
 clear hb
 go_wp2_with fail
 refine (Stamp_run 1 _).mono ?_
 rintro x v13 ⟨rfl, hb⟩
 replace hB := hB.trans (hb.mono hB.size)
 clear hb
 go_wp2_with fail
 refine (Later_run (stmF 2) (stmF 1) _ (HS 2) (HS 1)).mono ?_
 rintro x v14 ⟨rfl, hb⟩
 replace hB := hB.trans (hb.mono hB.size)
 clear hb
 rw [t21]
 go_wp2_with fail
 refine (Stamp_run 1 _).mono ?_
 rintro x v15 ⟨rfl, hb⟩
 replace hB := hB.trans (hb.mono hB.size)
 clear hb
 go_wp2_with fail
 refine (Stamp_run 1 _).mono ?_
 rintro x v16 ⟨rfl, hb⟩
 replace hB := hB.trans (hb.mono hB.size)
 clear hb
 go_wp2_with fail
 refine (Later_run (stmF 1) (stmF 1) _ (HS 1) (HS 1)).mono ?_
 rintro x v17 ⟨rfl, hb⟩
 replace hB := hB.trans (hb.mono hB.size)
 clear hb
 rw [t11]
 go_wp2_with fail
 go_ret
 exact ⟨rfl, hB⟩
end Go.Proofs.YthghcjepdhkfdaaGreatDoor

/-
  Own text. The law NoiseStamps, walked.
-/
namespace Go.Proofs.YthghcjepdhkfdaaGreatDoor
open Go.RowKit Go.Proofs
set_option maxRecDepth 100000
theorem eqG12n : Tryz.prog.eqGuardType Tryz.prog.depth 26 = false := by kernel_rfl
end Go.Proofs.YthghcjepdhkfdaaGreatDoor

/-
  Own text. Package noise: Answer, Finish, Mark, Box and Unbox, by their steps.
-/
namespace Go.Proofs.YthghcjepdhkfdaaGreatDoor
open Go.RowKit Go.Proofs
set_option maxRecDepth 100000
theorem enterAnswerCl (args : Array Value) (w : World) : (callFunc 50 args).run Tryz.prog w = .ok (.enter 50 args) w := by kernel_rfl
set_option maxHeartbeats 1600000 in
theorem Answer_cl (b0 b1 b2 b3 b4 b5 : Nat) (h : Nat → Value) (S : Nat → Int) (E : Nat → Int) (ix : Int) (MS : ByteArray) (V : Nat → Value) (u : World) (hE : Env u) (c0 : SAt u b0 31 162 h) (c1 : ArrAt u b1 .u8 22 32 S) (c2 : ArrAt u b2 .u8 22 32 E) (c3 : CAt u b3 23 (.int .u32 ix)) (c4 : CAt u b4 9 (.string ⟨#[]⟩)) (c5 : SAt u b5 41 66 paiZ) (h1V : ∀ i, (V i).oneCell' = true) (hne : b4 ≠ b5) 
  (hst : ∀ u, Env u → Calls Tryz.prog 51 #[.agg (SC 162 h), .agg (WA .u8 32 S), .agg (WA .u8 32 E), .int .u32 ix] u fun e w' => e = .returned (.tuple #[.string MS, .agg (SC 66 V)]) ∧ Below u.heap.size u w') :
  Calls Tryz.prog 50 #[.pointer (some ⟨b0, 0, none⟩), .pointer (some ⟨b1, 0, none⟩), .pointer (some ⟨b2, 0, none⟩), .pointer (some ⟨b3, 0, none⟩), .pointer (some ⟨b4, 0, none⟩), .pointer (some ⟨b5, 0, none⟩)] u fun e w' => e = .returned (.tuple #[]) ∧ CAt w' b4 9 (.string MS) ∧ SAt w' b5 41 66 V ∧ Touch (fun x => x = b4 ∨ x = b5) u w' := by
 have touch_or0 : ∀ {p q : World}, Only b4 p q → Touch (fun x => x = b4 ∨ x = b5) p q := fun o => ⟨o.os, o.tape, o.output, by rw [o.size]; exact Nat.le_refl _, fun k _ hn => o.block k (fun h => hn (by simp [h]))⟩
 have touch_or1 : ∀ {p q : World}, Only b5 p q → Touch (fun x => x = b4 ∨ x = b5) p q := fun o => ⟨o.os, o.tape, o.output, by rw [o.size]; exact Nat.le_refl _, fun k _ hn => o.block k (fun h => hn (by simp [h]))⟩
 have e3 := c3.at
 go_enter Tryz.func50, Tryz.ntmps50
 go_wp2_with (first | (refine ld_arr isArr32 c1 (by rfl) ?_) | (refine ld_arr isArr32 c2 (by rfl) ?_) | (refine wl_value rfl (look_st rfl isHand c0 (by rfl)) ?_))
 refine (hst _ hE).mono ?_
 rintro x v1 ⟨rfl, hb⟩
 replace c4 := c4.kept hb
 replace c5 := c5.kept hb
 have ht : Touch (fun x => x = b4 ∨ x = b5) u v1 := touch_le hb
 clear hb
 have s0 := c4.at
 have z0 := c4.free
 have d0 := Hid.mk (c4.set (.string MS))
 have ht0 : Touch (fun x => x = b4 ∨ x = b5) u (v1.setCell ⟨b4, 0, none⟩ (.string MS)) := touch_tr ht (touch_or0 only_set)
 replace c5 := c5.only (only_set (w := v1) (g := b4) (i := 0) (v := .string MS)) (Ne.symm hne)
 replace ht := ht0
 clear ht0 c4
 go_wp2_with (refine st_st isPair h1V c5 (by rfl) (by rfl) ?_; intro y1 d10 o1; refine Hid.out ?_)
 have d1 := Hid.mk d10
 replace d0 := Hid.mk (d0.out.only o1 hne)
 replace ht := touch_tr ht (touch_or1 o1)
 clear d10 o1
 refine Hid.mk ?_
 go_wp2_with fail
 exact bodyPost_end (results_none rfl _ _ _) rfl ⟨rfl, d0.out, d1.out, ht⟩
set_option maxHeartbeats 1600000 in
theorem Answer_cn (b0 b1 b2 b3 b4 b5 : Nat) (h : Nat → Value) (S : Nat → Int) (E : Nat → Int) (ix : Int) (X : Int) (u : World) (hE : Env u) (c0 : SAt u b0 31 162 h) (c1 : ArrAt u b1 .u8 22 32 S) (c2 : ArrAt u b2 .u8 22 32 E) (c3 : CAt u b3 23 (.int .u32 ix))
  (hst : ∀ u, Env u → Calls Tryz.prog 51 #[.agg (SC 162 h), .agg (WA .u8 32 S), .agg (WA .u8 32 E), .int .u32 ix] u fun e w' => e = gup X ∧ Below u.heap.size u w') :
  Calls Tryz.prog 50 #[.pointer (some ⟨b0, 0, none⟩), .pointer (some ⟨b1, 0, none⟩), .pointer (some ⟨b2, 0, none⟩), .pointer (some ⟨b3, 0, none⟩), .pointer (some ⟨b4, 0, none⟩), .pointer (some ⟨b5, 0, none⟩)] u fun e w' => e = gup X ∧ Below u.heap.size u w' := by
 have e3 := c3.at
 go_enter Tryz.func50, Tryz.ntmps50
 go_wp2_with (first | (refine ld_arr isArr32 c1 (by rfl) ?_) | (refine ld_arr isArr32 c2 (by rfl) ?_) | (refine wl_value rfl (look_st rfl isHand c0 (by rfl)) ?_))
 refine (hst _ hE).mono ?_
 rintro x v1 ⟨rfl, hb⟩
 exact ⟨rfl, rfl, hb⟩
set_option linter.unusedVariables false in
set_option maxHeartbeats 4000000 in
set_option maxRecDepth 100000 in
theorem Answer_ok (h : Nat → Value) (S : Nat → Int) (E : Nat → Int) (ix : Int) (MS : ByteArray) (V : Nat → Value) (w : World) (hE : Env w) (h1V : ∀ i, (V i).oneCell' = true)
  (hst : ∀ u, Env u → Calls Tryz.prog 51 #[.agg (SC 162 h), .agg (WA .u8 32 S), .agg (WA .u8 32 E), .int .u32 ix] u fun e w' => e = .returned (.tuple #[.string MS, .agg (SC 66 V)]) ∧ Below u.heap.size u w') :
  Calls Tryz.prog 13 #[.agg (SC 162 h), .agg (WA .u8 32 S), .agg (WA .u8 32 E), .int .u32 ix] w fun e w' => e = .returned (.tuple #[.string MS, .agg (SC 66 V), .int .i64 0]) ∧ Below w.heap.size w w' := by
 have hB : Below w.heap.size w (((((((w.alloc (.cells (SC 162 h) 31)).alloc (.cells (WA .u8 32 S) 22)).alloc (.cells (WA .u8 32 E) 22)).alloc (.cells #[.int .u32 ix] 23)).alloc (.cells Tryz.zeroCells41 41)).alloc (.cells #[.string ⟨#[]⟩] 9)).alloc (.cells Tryz.zeroCells41 41)) := (((((((Below.refl _ w).alloc (by simp) _).alloc (by simp) _).alloc (by simp; omega) _).alloc (by simp; omega) _).alloc (by simp; omega) _).alloc (by simp; omega) _).alloc (by simp; omega) _
 have g0 : SAt (((((((w.alloc (.cells (SC 162 h) 31)).alloc (.cells (WA .u8 32 S) 22)).alloc (.cells (WA .u8 32 E) 22)).alloc (.cells #[.int .u32 ix] 23)).alloc (.cells Tryz.zeroCells41 41)).alloc (.cells #[.string ⟨#[]⟩] 9)).alloc (.cells Tryz.zeroCells41 41)) w.heap.size 31 162 h := heap_keep_alloc _ (heap_keep_alloc _ (heap_keep_alloc _ (heap_keep_alloc _ (heap_keep_alloc _ (heap_keep_alloc _ (heap_at_alloc w _ w.heap.size (by simp)))))))
 have g1 : ArrAt (((((((w.alloc (.cells (SC 162 h) 31)).alloc (.cells (WA .u8 32 S) 22)).alloc (.cells (WA .u8 32 E) 22)).alloc (.cells #[.int .u32 ix] 23)).alloc (.cells Tryz.zeroCells41 41)).alloc (.cells #[.string ⟨#[]⟩] 9)).alloc (.cells Tryz.zeroCells41 41)) (w.heap.size + 1) .u8 22 32 S := heap_keep_alloc _ (heap_keep_alloc _ (heap_keep_alloc _ (heap_keep_alloc _ (heap_keep_alloc _ (heap_at_alloc (w.alloc (.cells (SC 162 h) 31)) _ (w.heap.size + 1) (by simp))))))
 have g2 : ArrAt (((((((w.alloc (.cells (SC 162 h) 31)).alloc (.cells (WA .u8 32 S) 22)).alloc (.cells (WA .u8 32 E) 22)).alloc (.cells #[.int .u32 ix] 23)).alloc (.cells Tryz.zeroCells41 41)).alloc (.cells #[.string ⟨#[]⟩] 9)).alloc (.cells Tryz.zeroCells41 41)) (w.heap.size + 1 + 1) .u8 22 32 E := heap_keep_alloc _ (heap_keep_alloc _ (heap_keep_alloc _ (heap_keep_alloc _ (heap_at_alloc ((w.alloc (.cells (SC 162 h) 31)).alloc (.cells (WA .u8 32 S) 22)) _ (w.heap.size + 1 + 1) (by simp)))))
 have g3 : CAt (((((((w.alloc (.cells (SC 162 h) 31)).alloc (.cells (WA .u8 32 S) 22)).alloc (.cells (WA .u8 32 E) 22)).alloc (.cells #[.int .u32 ix] 23)).alloc (.cells Tryz.zeroCells41 41)).alloc (.cells #[.string ⟨#[]⟩] 9)).alloc (.cells Tryz.zeroCells41 41)) (w.heap.size + 1 + 1 + 1) 23 (.int .u32 ix) := heap_keep_alloc _ (heap_keep_alloc _ (heap_keep_alloc _ (heap_at_alloc (((w.alloc (.cells (SC 162 h) 31)).alloc (.cells (WA .u8 32 S) 22)).alloc (.cells (WA .u8 32 E) 22)) _ (w.heap.size + 1 + 1 + 1) (by simp))))
 have g4 : SAt (((((((w.alloc (.cells (SC 162 h) 31)).alloc (.cells (WA .u8 32 S) 22)).alloc (.cells (WA .u8 32 E) 22)).alloc (.cells #[.int .u32 ix] 23)).alloc (.cells Tryz.zeroCells41 41)).alloc (.cells #[.string ⟨#[]⟩] 9)).alloc (.cells Tryz.zeroCells41 41)) (w.heap.size + 1 + 1 + 1 + 1) 41 66 paiZ := by
  have h : ((((((((w.alloc (.cells (SC 162 h) 31)).alloc (.cells (WA .u8 32 S) 22)).alloc (.cells (WA .u8 32 E) 22)).alloc (.cells #[.int .u32 ix] 23)).alloc (.cells Tryz.zeroCells41 41)).alloc (.cells #[.string ⟨#[]⟩] 9)).alloc (.cells Tryz.zeroCells41 41))).heap[(w.heap.size + 1 + 1 + 1 + 1)]? = some (.cells Tryz.zeroCells41 41) := heap_keep_alloc _ (heap_keep_alloc _ (heap_at_alloc ((((w.alloc (.cells (SC 162 h) 31)).alloc (.cells (WA .u8 32 S) 22)).alloc (.cells (WA .u8 32 E) 22)).alloc (.cells #[.int .u32 ix] 23)) _ (w.heap.size + 1 + 1 + 1 + 1) (by simp)))
  unfold SAt
  rw [← zeroPair]
  exact h
 have g5 : CAt (((((((w.alloc (.cells (SC 162 h) 31)).alloc (.cells (WA .u8 32 S) 22)).alloc (.cells (WA .u8 32 E) 22)).alloc (.cells #[.int .u32 ix] 23)).alloc (.cells Tryz.zeroCells41 41)).alloc (.cells #[.string ⟨#[]⟩] 9)).alloc (.cells Tryz.zeroCells41 41)) (w.heap.size + 1 + 1 + 1 + 1 + 1) 9 (.string ⟨#[]⟩) := heap_keep_alloc _ (heap_at_alloc (((((w.alloc (.cells (SC 162 h) 31)).alloc (.cells (WA .u8 32 S) 22)).alloc (.cells (WA .u8 32 E) 22)).alloc (.cells #[.int .u32 ix] 23)).alloc (.cells Tryz.zeroCells41 41)) _ (w.heap.size + 1 + 1 + 1 + 1 + 1) (by simp))
 have g6 : SAt (((((((w.alloc (.cells (SC 162 h) 31)).alloc (.cells (WA .u8 32 S) 22)).alloc (.cells (WA .u8 32 E) 22)).alloc (.cells #[.int .u32 ix] 23)).alloc (.cells Tryz.zeroCells41 41)).alloc (.cells #[.string ⟨#[]⟩] 9)).alloc (.cells Tryz.zeroCells41 41)) (w.heap.size + 1 + 1 + 1 + 1 + 1 + 1) 41 66 paiZ := by
  have h : ((((((((w.alloc (.cells (SC 162 h) 31)).alloc (.cells (WA .u8 32 S) 22)).alloc (.cells (WA .u8 32 E) 22)).alloc (.cells #[.int .u32 ix] 23)).alloc (.cells Tryz.zeroCells41 41)).alloc (.cells #[.string ⟨#[]⟩] 9)).alloc (.cells Tryz.zeroCells41 41))).heap[(w.heap.size + 1 + 1 + 1 + 1 + 1 + 1)]? = some (.cells Tryz.zeroCells41 41) := heap_at_alloc ((((((w.alloc (.cells (SC 162 h) 31)).alloc (.cells (WA .u8 32 S) 22)).alloc (.cells (WA .u8 32 E) 22)).alloc (.cells #[.int .u32 ix] 23)).alloc (.cells Tryz.zeroCells41 41)).alloc (.cells #[.string ⟨#[]⟩] 9)) _ (w.heap.size + 1 + 1 + 1 + 1 + 1 + 1) (by simp)
  unfold SAt
  rw [← zeroPair]
  exact h
 replace hE := hE.kept hB
 have hss : ((((((((w.alloc (.cells (SC 162 h) 31)).alloc (.cells (WA .u8 32 S) 22)).alloc (.cells (WA .u8 32 E) 22)).alloc (.cells #[.int .u32 ix] 23)).alloc (.cells Tryz.zeroCells41 41)).alloc (.cells #[.string ⟨#[]⟩] 9)).alloc (.cells Tryz.zeroCells41 41))).heap.size = w.heap.size + 1 + 1 + 1 + 1 + 1 + 1 + 1 := by simp
 have hAt := attempt_run 50 #[.pointer (some ⟨w.heap.size, 0, none⟩), .pointer (some ⟨(w.heap.size + 1), 0, none⟩), .pointer (some ⟨(w.heap.size + 1 + 1), 0, none⟩), .pointer (some ⟨(w.heap.size + 1 + 1 + 1), 0, none⟩), .pointer (some ⟨(w.heap.size + 1 + 1 + 1 + 1 + 1), 0, none⟩), .pointer (some ⟨(w.heap.size + 1 + 1 + 1 + 1 + 1 + 1), 0, none⟩)] (fun x => x = (w.heap.size + 1 + 1 + 1 + 1 + 1) ∨ x = (w.heap.size + 1 + 1 + 1 + 1 + 1 + 1)) (fun x v => x = 0 ∧ CAt v (w.heap.size + 1 + 1 + 1 + 1 + 1) 9 (.string MS) ∧ SAt v (w.heap.size + 1 + 1 + 1 + 1 + 1 + 1) 41 66 V) (((((((w.alloc (.cells (SC 162 h) 31)).alloc (.cells (WA .u8 32 S) 22)).alloc (.cells (WA .u8 32 E) 22)).alloc (.cells #[.int .u32 ix] 23)).alloc (.cells Tryz.zeroCells41 41)).alloc (.cells #[.string ⟨#[]⟩] 9)).alloc (.cells Tryz.zeroCells41 41)) enterAnswerCl (fun x hx => by simp at hx ⊢; omega) (fun u hu => by
  refine ((Answer_cl w.heap.size (w.heap.size + 1) (w.heap.size + 1 + 1) (w.heap.size + 1 + 1 + 1) (w.heap.size + 1 + 1 + 1 + 1 + 1) (w.heap.size + 1 + 1 + 1 + 1 + 1 + 1) h S E ix MS V u (hE.kept hu) (g0.kept hu) (g1.kept hu) (g2.kept hu) (g3.kept hu) (g5.kept hu) (g6.kept hu) h1V (by omega) hst).mono ?_)
  rintro e v ⟨rfl, p0, p1, ht⟩
  exact ⟨ht, 0, .inl ⟨rfl, rfl⟩, rfl, p0, p1⟩)
 have hmf : ∀ (fn : Fn) (first cap : Array Value) (w : World), (Instr.makeFunc fn first cap).run Tryz.prog w = .ok (.func fn first cap) w := fun _ _ _ _ => rfl
 go_enter Tryz.func13, Tryz.ntmps13
 go_wp2_with fail
 refine hAt.mono ?_
 rintro e v0 ⟨x, vc, rfl, ⟨hx, p0, p1⟩, tT, hb⟩
 have hx' := hx.symm
 clear hx
 subst hx'
 clear hAt hmf
 replace p0 := p0.block (hb.block (w.heap.size + 1 + 1 + 1 + 1 + 1) (by omega))
 replace p1 := p1.block (hb.block (w.heap.size + 1 + 1 + 1 + 1 + 1 + 1) (by omega))
 replace g4 := g4.block (tT.block (w.heap.size + 1 + 1 + 1 + 1) g4.lt (by omega))
 replace hB : Below w.heap.size w v0 := ⟨tT.os.trans hB.os, tT.tape.trans hB.tape, tT.output.trans hB.output, Nat.le_trans hB.size tT.size, fun k hk => (tT.block k (by have := hB.size; omega) (by omega)).trans (hB.block k hk)⟩
 clear tT hb hss g0 g1 g2 g3 g5 g6 hE
 go_wp2_with fail
 have HL0 : Hid (∀ u, Touch (fun x => x = (w.heap.size + 1 + 1 + 1 + 1)) v0 u → CAt u (w.heap.size + 1 + 1 + 1 + 1 + 1) 9 (.string MS)) := Hid.mk (fun u hu => p0.block (hu.block (w.heap.size + 1 + 1 + 1 + 1 + 1) p0.lt (by omega)))
 have HL1 : Hid (∀ u, Touch (fun x => x = (w.heap.size + 1 + 1 + 1 + 1)) v0 u → SAt u (w.heap.size + 1 + 1 + 1 + 1 + 1 + 1) 41 66 V) := Hid.mk (fun u hu => p1.block (hu.block (w.heap.size + 1 + 1 + 1 + 1 + 1 + 1) p1.lt (by omega)))
 refine wp_region3 (Touch (fun x => x = (w.heap.size + 1 + 1 + 1 + 1)) v0) v0.heap.size
   [((w.heap.size + 1 + 1 + 1 + 1), once (SC 66 paiZ) 41 4 (SC 66 V))]
   [kv (.string MS), kv (.agg (SC 66 V)), kv (.int .i64 0), kv (.string MS), .val fun _ => True, kv (.int .i64 0)]
   [.none, .none, .none, .none, .base 0 1, .none]
   [some 16, some 17, some 18, some 8, none, some 10]
   [(11, .pointer (some ⟨(w.heap.size + 1 + 1 + 1 + 1 + 1), 0, none⟩)), (12, .pointer (some ⟨(w.heap.size + 1 + 1 + 1 + 1 + 1 + 1), 0, none⟩)), (13, .int .i64 0), (9, .pointer (some ⟨(w.heap.size + 1 + 1 + 1 + 1), 0, none⟩))]
   [[], [], [], [.slot 0], [.slot 1, .base 0 0], [.slot 2]]
   [.base 0 1, .slot 3, .slot 5] [16, 17, 18, 8, 10]
   rfl (by kernel_rfl) ⟨rfl, rfl, rfl, rfl, trivial⟩ (touch_le (Below.refl _ v0).drew) (Nat.le_refl _) ⟨⟨g4.lt, obIn g4⟩, trivial⟩ ⟨trivial, trivial⟩ (touch_GT (fun k hk => by simpa using hk))
   ⟨
    (fun Q aq ww own hS hBg fr kn => .inl ⟨trivial, fun K hK => wp_value (exec_ld rfl fr.1 (load_str (HL0.out ww hS).at)) (hK _ _ ⟨Touch.refl _ _, rfl⟩)⟩),
    (fun Q aq ww own hS hBg fr kn => .inl ⟨trivial, fun K hK => wp_value (look_st rfl isPair (HL1.out ww hS) fr.2.1) (hK _ _ ⟨Touch.refl _ _, rfl⟩)⟩),
    (fun Q aq ww own hS hBg fr kn => .inl ⟨trivial, fun K hK => wp_value (exec_move rfl fr.2.2.1) (hK _ _ ⟨Touch.refl _ _, rfl⟩)⟩),
    (fun Q aq ww own hS hBg fr kn => .inl ⟨trivial, fun K hK => wp_value (exec_assign rfl kn.1) (hK _ _ ⟨Touch.refl _ _, rfl⟩)⟩),
    (fun Q aq ww own hS hBg fr kn => .inl ⟨trivial, fun K hK => act_st7 rfl isPair h1V fr.2.2.2.1 kn.1 (obAt kn.2.1) (fun w2 hg ho => hK _ _ ⟨⟨touch_only ho, obIn hg⟩, trivial⟩)⟩),
    (fun Q aq ww own hS hBg fr kn => .inl ⟨trivial, fun K hK => wp_value (exec_assign rfl kn.1) (hK _ _ ⟨Touch.refl _ _, rfl⟩)⟩),
    trivial⟩ ?_
 intro vs own v9 hT1 hsz kn inj
 clear inj hsz
 have q0 : SAt v9 (w.heap.size + 1 + 1 + 1 + 1) 41 66 V := obAt kn.1
 have e8 : vs 8 = _ := kn.2.1
 have e10 : vs 10 = _ := kn.2.2.1
 clear kn HL0 HL1
 replace hB : Below w.heap.size w v9 := ⟨hT1.os.trans hB.os, hT1.tape.trans hB.tape, hT1.output.trans hB.output, Nat.le_trans hB.size hT1.size, fun k hk => (hT1.block k (by have := hB.size; omega) (by omega)).trans (hB.block k hk)⟩
 simp only [putAll, Act.put, List.setIfInBounds_toArray, List.set_cons_zero, List.set_cons_succ, e8, e10]
 go_wp2_with fail
 exact bodyPost_ret (v := .tuple #[.string MS, .agg (SC 66 V), .int .i64 0]) (res_tct Tryz.results13 isPair q0 (by rfl) (by rfl) (by rfl)) rfl ⟨rfl, hB⟩
set_option linter.unusedVariables false in
set_option maxHeartbeats 4000000 in
set_option maxRecDepth 100000 in
theorem Answer_no (h : Nat → Value) (S : Nat → Int) (E : Nat → Int) (ix : Int) (X : Int) (w : World) (hE : Env w) 
  (hst : ∀ u, Env u → Calls Tryz.prog 51 #[.agg (SC 162 h), .agg (WA .u8 32 S), .agg (WA .u8 32 E), .int .u32 ix] u fun e w' => e = gup X ∧ Below u.heap.size u w') :
  Calls Tryz.prog 13 #[.agg (SC 162 h), .agg (WA .u8 32 S), .agg (WA .u8 32 E), .int .u32 ix] w fun e w' => e = .returned (.tuple #[.string ⟨#[]⟩, .agg (SC 66 paiZ), .int .i64 X]) ∧ Below w.heap.size w w' := by
 have hB : Below w.heap.size w (((((((w.alloc (.cells (SC 162 h) 31)).alloc (.cells (WA .u8 32 S) 22)).alloc (.cells (WA .u8 32 E) 22)).alloc (.cells #[.int .u32 ix] 23)).alloc (.cells Tryz.zeroCells41 41)).alloc (.cells #[.string ⟨#[]⟩] 9)).alloc (.cells Tryz.zeroCells41 41)) := (((((((Below.refl _ w).alloc (by simp) _).alloc (by simp) _).alloc (by simp; omega) _).alloc (by simp; omega) _).alloc (by simp; omega) _).alloc (by simp; omega) _).alloc (by simp; omega) _
 have g0 : SAt (((((((w.alloc (.cells (SC 162 h) 31)).alloc (.cells (WA .u8 32 S) 22)).alloc (.cells (WA .u8 32 E) 22)).alloc (.cells #[.int .u32 ix] 23)).alloc (.cells Tryz.zeroCells41 41)).alloc (.cells #[.string ⟨#[]⟩] 9)).alloc (.cells Tryz.zeroCells41 41)) w.heap.size 31 162 h := heap_keep_alloc _ (heap_keep_alloc _ (heap_keep_alloc _ (heap_keep_alloc _ (heap_keep_alloc _ (heap_keep_alloc _ (heap_at_alloc w _ w.heap.size (by simp)))))))
 have g1 : ArrAt (((((((w.alloc (.cells (SC 162 h) 31)).alloc (.cells (WA .u8 32 S) 22)).alloc (.cells (WA .u8 32 E) 22)).alloc (.cells #[.int .u32 ix] 23)).alloc (.cells Tryz.zeroCells41 41)).alloc (.cells #[.string ⟨#[]⟩] 9)).alloc (.cells Tryz.zeroCells41 41)) (w.heap.size + 1) .u8 22 32 S := heap_keep_alloc _ (heap_keep_alloc _ (heap_keep_alloc _ (heap_keep_alloc _ (heap_keep_alloc _ (heap_at_alloc (w.alloc (.cells (SC 162 h) 31)) _ (w.heap.size + 1) (by simp))))))
 have g2 : ArrAt (((((((w.alloc (.cells (SC 162 h) 31)).alloc (.cells (WA .u8 32 S) 22)).alloc (.cells (WA .u8 32 E) 22)).alloc (.cells #[.int .u32 ix] 23)).alloc (.cells Tryz.zeroCells41 41)).alloc (.cells #[.string ⟨#[]⟩] 9)).alloc (.cells Tryz.zeroCells41 41)) (w.heap.size + 1 + 1) .u8 22 32 E := heap_keep_alloc _ (heap_keep_alloc _ (heap_keep_alloc _ (heap_keep_alloc _ (heap_at_alloc ((w.alloc (.cells (SC 162 h) 31)).alloc (.cells (WA .u8 32 S) 22)) _ (w.heap.size + 1 + 1) (by simp)))))
 have g3 : CAt (((((((w.alloc (.cells (SC 162 h) 31)).alloc (.cells (WA .u8 32 S) 22)).alloc (.cells (WA .u8 32 E) 22)).alloc (.cells #[.int .u32 ix] 23)).alloc (.cells Tryz.zeroCells41 41)).alloc (.cells #[.string ⟨#[]⟩] 9)).alloc (.cells Tryz.zeroCells41 41)) (w.heap.size + 1 + 1 + 1) 23 (.int .u32 ix) := heap_keep_alloc _ (heap_keep_alloc _ (heap_keep_alloc _ (heap_at_alloc (((w.alloc (.cells (SC 162 h) 31)).alloc (.cells (WA .u8 32 S) 22)).alloc (.cells (WA .u8 32 E) 22)) _ (w.heap.size + 1 + 1 + 1) (by simp))))
 have g4 : SAt (((((((w.alloc (.cells (SC 162 h) 31)).alloc (.cells (WA .u8 32 S) 22)).alloc (.cells (WA .u8 32 E) 22)).alloc (.cells #[.int .u32 ix] 23)).alloc (.cells Tryz.zeroCells41 41)).alloc (.cells #[.string ⟨#[]⟩] 9)).alloc (.cells Tryz.zeroCells41 41)) (w.heap.size + 1 + 1 + 1 + 1) 41 66 paiZ := by
  have h : ((((((((w.alloc (.cells (SC 162 h) 31)).alloc (.cells (WA .u8 32 S) 22)).alloc (.cells (WA .u8 32 E) 22)).alloc (.cells #[.int .u32 ix] 23)).alloc (.cells Tryz.zeroCells41 41)).alloc (.cells #[.string ⟨#[]⟩] 9)).alloc (.cells Tryz.zeroCells41 41))).heap[(w.heap.size + 1 + 1 + 1 + 1)]? = some (.cells Tryz.zeroCells41 41) := heap_keep_alloc _ (heap_keep_alloc _ (heap_at_alloc ((((w.alloc (.cells (SC 162 h) 31)).alloc (.cells (WA .u8 32 S) 22)).alloc (.cells (WA .u8 32 E) 22)).alloc (.cells #[.int .u32 ix] 23)) _ (w.heap.size + 1 + 1 + 1 + 1) (by simp)))
  unfold SAt
  rw [← zeroPair]
  exact h
 have g5 : CAt (((((((w.alloc (.cells (SC 162 h) 31)).alloc (.cells (WA .u8 32 S) 22)).alloc (.cells (WA .u8 32 E) 22)).alloc (.cells #[.int .u32 ix] 23)).alloc (.cells Tryz.zeroCells41 41)).alloc (.cells #[.string ⟨#[]⟩] 9)).alloc (.cells Tryz.zeroCells41 41)) (w.heap.size + 1 + 1 + 1 + 1 + 1) 9 (.string ⟨#[]⟩) := heap_keep_alloc _ (heap_at_alloc (((((w.alloc (.cells (SC 162 h) 31)).alloc (.cells (WA .u8 32 S) 22)).alloc (.cells (WA .u8 32 E) 22)).alloc (.cells #[.int .u32 ix] 23)).alloc (.cells Tryz.zeroCells41 41)) _ (w.heap.size + 1 + 1 + 1 + 1 + 1) (by simp))
 have g6 : SAt (((((((w.alloc (.cells (SC 162 h) 31)).alloc (.cells (WA .u8 32 S) 22)).alloc (.cells (WA .u8 32 E) 22)).alloc (.cells #[.int .u32 ix] 23)).alloc (.cells Tryz.zeroCells41 41)).alloc (.cells #[.string ⟨#[]⟩] 9)).alloc (.cells Tryz.zeroCells41 41)) (w.heap.size + 1 + 1 + 1 + 1 + 1 + 1) 41 66 paiZ := by
  have h : ((((((((w.alloc (.cells (SC 162 h) 31)).alloc (.cells (WA .u8 32 S) 22)).alloc (.cells (WA .u8 32 E) 22)).alloc (.cells #[.int .u32 ix] 23)).alloc (.cells Tryz.zeroCells41 41)).alloc (.cells #[.string ⟨#[]⟩] 9)).alloc (.cells Tryz.zeroCells41 41))).heap[(w.heap.size + 1 + 1 + 1 + 1 + 1 + 1)]? = some (.cells Tryz.zeroCells41 41) := heap_at_alloc ((((((w.alloc (.cells (SC 162 h) 31)).alloc (.cells (WA .u8 32 S) 22)).alloc (.cells (WA .u8 32 E) 22)).alloc (.cells #[.int .u32 ix] 23)).alloc (.cells Tryz.zeroCells41 41)).alloc (.cells #[.string ⟨#[]⟩] 9)) _ (w.heap.size + 1 + 1 + 1 + 1 + 1 + 1) (by simp)
  unfold SAt
  rw [← zeroPair]
  exact h
 replace hE := hE.kept hB
 have hss : ((((((((w.alloc (.cells (SC 162 h) 31)).alloc (.cells (WA .u8 32 S) 22)).alloc (.cells (WA .u8 32 E) 22)).alloc (.cells #[.int .u32 ix] 23)).alloc (.cells Tryz.zeroCells41 41)).alloc (.cells #[.string ⟨#[]⟩] 9)).alloc (.cells Tryz.zeroCells41 41))).heap.size = w.heap.size + 1 + 1 + 1 + 1 + 1 + 1 + 1 := by simp
 have hAt := attempt_run 50 #[.pointer (some ⟨w.heap.size, 0, none⟩), .pointer (some ⟨(w.heap.size + 1), 0, none⟩), .pointer (some ⟨(w.heap.size + 1 + 1), 0, none⟩), .pointer (some ⟨(w.heap.size + 1 + 1 + 1), 0, none⟩), .pointer (some ⟨(w.heap.size + 1 + 1 + 1 + 1 + 1), 0, none⟩), .pointer (some ⟨(w.heap.size + 1 + 1 + 1 + 1 + 1 + 1), 0, none⟩)] (fun x => x = (w.heap.size + 1 + 1 + 1 + 1 + 1) ∨ x = (w.heap.size + 1 + 1 + 1 + 1 + 1 + 1)) (fun x v => x = X ∧ CAt v (w.heap.size + 1 + 1 + 1 + 1 + 1) 9 (.string ⟨#[]⟩) ∧ SAt v (w.heap.size + 1 + 1 + 1 + 1 + 1 + 1) 41 66 paiZ) (((((((w.alloc (.cells (SC 162 h) 31)).alloc (.cells (WA .u8 32 S) 22)).alloc (.cells (WA .u8 32 E) 22)).alloc (.cells #[.int .u32 ix] 23)).alloc (.cells Tryz.zeroCells41 41)).alloc (.cells #[.string ⟨#[]⟩] 9)).alloc (.cells Tryz.zeroCells41 41)) enterAnswerCl (fun x hx => by simp at hx ⊢; omega) (fun u hu => by
  refine ((Answer_cn w.heap.size (w.heap.size + 1) (w.heap.size + 1 + 1) (w.heap.size + 1 + 1 + 1) (w.heap.size + 1 + 1 + 1 + 1 + 1) (w.heap.size + 1 + 1 + 1 + 1 + 1 + 1) h S E ix X u (hE.kept hu) (g0.kept hu) (g1.kept hu) (g2.kept hu) (g3.kept hu) hst).mono ?_)
  rintro e v ⟨rfl, hb⟩
  exact ⟨touch_le hb, X, .inr rfl, rfl, (g5.kept hu).kept hb, (g6.kept hu).kept hb⟩)
 have hmf : ∀ (fn : Fn) (first cap : Array Value) (w : World), (Instr.makeFunc fn first cap).run Tryz.prog w = .ok (.func fn first cap) w := fun _ _ _ _ => rfl
 go_enter Tryz.func13, Tryz.ntmps13
 go_wp2_with fail
 refine hAt.mono ?_
 rintro e v0 ⟨x, vc, rfl, ⟨hx, p0, p1⟩, tT, hb⟩
 have hx' := hx.symm
 clear hx
 subst hx'
 clear hAt hmf
 replace p0 := p0.block (hb.block (w.heap.size + 1 + 1 + 1 + 1 + 1) (by omega))
 replace p1 := p1.block (hb.block (w.heap.size + 1 + 1 + 1 + 1 + 1 + 1) (by omega))
 replace g4 := g4.block (tT.block (w.heap.size + 1 + 1 + 1 + 1) g4.lt (by omega))
 replace hB : Below w.heap.size w v0 := ⟨tT.os.trans hB.os, tT.tape.trans hB.tape, tT.output.trans hB.output, Nat.le_trans hB.size tT.size, fun k hk => (tT.block k (by have := hB.size; omega) (by omega)).trans (hB.block k hk)⟩
 clear tT hb hss g0 g1 g2 g3 g5 g6 hE
 go_wp2_with fail
 have HL0 : Hid (∀ u, Touch (fun x => x = (w.heap.size + 1 + 1 + 1 + 1)) v0 u → CAt u (w.heap.size + 1 + 1 + 1 + 1 + 1) 9 (.string ⟨#[]⟩)) := Hid.mk (fun u hu => p0.block (hu.block (w.heap.size + 1 + 1 + 1 + 1 + 1) p0.lt (by omega)))
 have HL1 : Hid (∀ u, Touch (fun x => x = (w.heap.size + 1 + 1 + 1 + 1)) v0 u → SAt u (w.heap.size + 1 + 1 + 1 + 1 + 1 + 1) 41 66 paiZ) := Hid.mk (fun u hu => p1.block (hu.block (w.heap.size + 1 + 1 + 1 + 1 + 1 + 1) p1.lt (by omega)))
 refine wp_region3 (Touch (fun x => x = (w.heap.size + 1 + 1 + 1 + 1)) v0) v0.heap.size
   [((w.heap.size + 1 + 1 + 1 + 1), once (SC 66 paiZ) 41 4 (SC 66 paiZ))]
   [kv (.string ⟨#[]⟩), kv (.agg (SC 66 paiZ)), kv (.int .i64 X), kv (.string ⟨#[]⟩), .val fun _ => True, kv (.int .i64 X)]
   [.none, .none, .none, .none, .base 0 1, .none]
   [some 16, some 17, some 18, some 8, none, some 10]
   [(11, .pointer (some ⟨(w.heap.size + 1 + 1 + 1 + 1 + 1), 0, none⟩)), (12, .pointer (some ⟨(w.heap.size + 1 + 1 + 1 + 1 + 1 + 1), 0, none⟩)), (13, .int .i64 X), (9, .pointer (some ⟨(w.heap.size + 1 + 1 + 1 + 1), 0, none⟩))]
   [[], [], [], [.slot 0], [.slot 1, .base 0 0], [.slot 2]]
   [.base 0 1, .slot 3, .slot 5] [16, 17, 18, 8, 10]
   rfl (by kernel_rfl) ⟨rfl, rfl, rfl, rfl, trivial⟩ (touch_le (Below.refl _ v0).drew) (Nat.le_refl _) ⟨⟨g4.lt, obIn g4⟩, trivial⟩ ⟨trivial, trivial⟩ (touch_GT (fun k hk => by simpa using hk))
   ⟨
    (fun Q aq ww own hS hBg fr kn => .inl ⟨trivial, fun K hK => wp_value (exec_ld rfl fr.1 (load_str (HL0.out ww hS).at)) (hK _ _ ⟨Touch.refl _ _, rfl⟩)⟩),
    (fun Q aq ww own hS hBg fr kn => .inl ⟨trivial, fun K hK => wp_value (look_st rfl isPair (HL1.out ww hS) fr.2.1) (hK _ _ ⟨Touch.refl _ _, rfl⟩)⟩),
    (fun Q aq ww own hS hBg fr kn => .inl ⟨trivial, fun K hK => wp_value (exec_move rfl fr.2.2.1) (hK _ _ ⟨Touch.refl _ _, rfl⟩)⟩),
    (fun Q aq ww own hS hBg fr kn => .inl ⟨trivial, fun K hK => wp_value (exec_assign rfl kn.1) (hK _ _ ⟨Touch.refl _ _, rfl⟩)⟩),
    (fun Q aq ww own hS hBg fr kn => .inl ⟨trivial, fun K hK => act_st7 rfl isPair (paiV_one _ _ _ _) fr.2.2.2.1 kn.1 (obAt kn.2.1) (fun w2 hg ho => hK _ _ ⟨⟨touch_only ho, obIn hg⟩, trivial⟩)⟩),
    (fun Q aq ww own hS hBg fr kn => .inl ⟨trivial, fun K hK => wp_value (exec_assign rfl kn.1) (hK _ _ ⟨Touch.refl _ _, rfl⟩)⟩),
    trivial⟩ ?_
 intro vs own v9 hT1 hsz kn inj
 clear inj hsz
 have q0 : SAt v9 (w.heap.size + 1 + 1 + 1 + 1) 41 66 paiZ := obAt kn.1
 have e8 : vs 8 = _ := kn.2.1
 have e10 : vs 10 = _ := kn.2.2.1
 clear kn HL0 HL1
 replace hB : Below w.heap.size w v9 := ⟨hT1.os.trans hB.os, hT1.tape.trans hB.tape, hT1.output.trans hB.output, Nat.le_trans hB.size hT1.size, fun k hk => (hT1.block k (by have := hB.size; omega) (by omega)).trans (hB.block k hk)⟩
 simp only [putAll, Act.put, List.setIfInBounds_toArray, List.set_cons_zero, List.set_cons_succ, e8, e10]
 go_wp2_with fail
 exact bodyPost_ret (v := .tuple #[.string ⟨#[]⟩, .agg (SC 66 paiZ), .int .i64 X]) (res_tct Tryz.results13 isPair q0 (by rfl) (by rfl) (by rfl)) rfl ⟨rfl, hB⟩
theorem enterFinishCl (args : Array Value) (w : World) : (callFunc 54 args).run Tryz.prog w = .ok (.enter 54 args) w := by kernel_rfl
set_option maxHeartbeats 1600000 in
theorem Finish_cl (b0 b1 b2 b3 b4 : Nat) (O : Nat → Int) (h : Nat → Value) (S : Nat → Int) (m : ByteArray) (V : Nat → Value) (u : World) (hE : Env u) (c0 : ArrAt u b0 .u8 22 32 O) (c1 : SAt u b1 31 162 h) (c2 : ArrAt u b2 .u8 22 32 S) (c3 : CAt u b3 9 (.string m)) (c4 : SAt u b4 41 66 paiZ) (h1V : ∀ i, (V i).oneCell' = true) 
  (hst : ∀ u, Env u → Calls Tryz.prog 55 #[.agg (WA .u8 32 O), .agg (SC 162 h), .agg (WA .u8 32 S), .string m] u fun e w' => e = .returned (.agg (SC 66 V)) ∧ Below u.heap.size u w') :
  Calls Tryz.prog 54 #[.pointer (some ⟨b0, 0, none⟩), .pointer (some ⟨b1, 0, none⟩), .pointer (some ⟨b2, 0, none⟩), .pointer (some ⟨b3, 0, none⟩), .pointer (some ⟨b4, 0, none⟩)] u fun e w' => e = .returned (.tuple #[]) ∧ SAt w' b4 41 66 V ∧ Touch (fun x => x = b4) u w' := by
 have touch_or0 : ∀ {p q : World}, Only b4 p q → Touch (fun x => x = b4) p q := fun o => ⟨o.os, o.tape, o.output, by rw [o.size]; exact Nat.le_refl _, fun k _ hn => o.block k (fun h => hn (by simp [h]))⟩
 have e3 := c3.at
 go_enter Tryz.func54, Tryz.ntmps54
 go_wp2_with (first | (refine ld_arr isArr32 c0 (by rfl) ?_) | (refine ld_arr isArr32 c2 (by rfl) ?_) | (refine wl_value rfl (look_st rfl isHand c1 (by rfl)) ?_))
 refine (hst _ hE).mono ?_
 rintro x v1 ⟨rfl, hb⟩
 replace c4 := c4.kept hb
 have ht : Touch (fun x => x = b4) u v1 := touch_le hb
 clear hb
 go_wp2_with (refine st_st isPair h1V c4 (by rfl) (by rfl) ?_; intro y0 d00 o0; refine Hid.out ?_)
 have d0 := Hid.mk d00
 replace ht := touch_tr ht (touch_or0 o0)
 clear d00 o0
 refine Hid.mk ?_
 go_wp2_with fail
 exact bodyPost_end (results_none rfl _ _ _) rfl ⟨rfl, d0.out, ht⟩
set_option maxHeartbeats 1600000 in
theorem Finish_cn (b0 b1 b2 b3 b4 : Nat) (O : Nat → Int) (h : Nat → Value) (S : Nat → Int) (m : ByteArray) (X : Int) (u : World) (hE : Env u) (c0 : ArrAt u b0 .u8 22 32 O) (c1 : SAt u b1 31 162 h) (c2 : ArrAt u b2 .u8 22 32 S) (c3 : CAt u b3 9 (.string m))
  (hst : ∀ u, Env u → Calls Tryz.prog 55 #[.agg (WA .u8 32 O), .agg (SC 162 h), .agg (WA .u8 32 S), .string m] u fun e w' => e = gup X ∧ Below u.heap.size u w') :
  Calls Tryz.prog 54 #[.pointer (some ⟨b0, 0, none⟩), .pointer (some ⟨b1, 0, none⟩), .pointer (some ⟨b2, 0, none⟩), .pointer (some ⟨b3, 0, none⟩), .pointer (some ⟨b4, 0, none⟩)] u fun e w' => e = gup X ∧ Below u.heap.size u w' := by
 have e3 := c3.at
 go_enter Tryz.func54, Tryz.ntmps54
 go_wp2_with (first | (refine ld_arr isArr32 c0 (by rfl) ?_) | (refine ld_arr isArr32 c2 (by rfl) ?_) | (refine wl_value rfl (look_st rfl isHand c1 (by rfl)) ?_))
 refine (hst _ hE).mono ?_
 rintro x v1 ⟨rfl, hb⟩
 exact ⟨rfl, rfl, hb⟩
set_option linter.unusedVariables false in
set_option maxHeartbeats 4000000 in
set_option maxRecDepth 100000 in
theorem Finish_ok (O : Nat → Int) (h : Nat → Value) (S : Nat → Int) (m : ByteArray) (V : Nat → Value) (w : World) (hE : Env w) (h1V : ∀ i, (V i).oneCell' = true)
  (hst : ∀ u, Env u → Calls Tryz.prog 55 #[.agg (WA .u8 32 O), .agg (SC 162 h), .agg (WA .u8 32 S), .string m] u fun e w' => e = .returned (.agg (SC 66 V)) ∧ Below u.heap.size u w') :
  Calls Tryz.prog 15 #[.agg (WA .u8 32 O), .agg (SC 162 h), .agg (WA .u8 32 S), .string m] w fun e w' => e = .returned (.tuple #[.agg (SC 66 V), .int .i64 0]) ∧ Below w.heap.size w w' := by
 have hB : Below w.heap.size w ((((((w.alloc (.cells (WA .u8 32 O) 22)).alloc (.cells (SC 162 h) 31)).alloc (.cells (WA .u8 32 S) 22)).alloc (.cells #[.string m] 9)).alloc (.cells Tryz.zeroCells41 41)).alloc (.cells Tryz.zeroCells41 41)) := ((((((Below.refl _ w).alloc (by simp) _).alloc (by simp) _).alloc (by simp; omega) _).alloc (by simp; omega) _).alloc (by simp; omega) _).alloc (by simp; omega) _
 have g0 : ArrAt ((((((w.alloc (.cells (WA .u8 32 O) 22)).alloc (.cells (SC 162 h) 31)).alloc (.cells (WA .u8 32 S) 22)).alloc (.cells #[.string m] 9)).alloc (.cells Tryz.zeroCells41 41)).alloc (.cells Tryz.zeroCells41 41)) w.heap.size .u8 22 32 O := heap_keep_alloc _ (heap_keep_alloc _ (heap_keep_alloc _ (heap_keep_alloc _ (heap_keep_alloc _ (heap_at_alloc w _ w.heap.size (by simp))))))
 have g1 : SAt ((((((w.alloc (.cells (WA .u8 32 O) 22)).alloc (.cells (SC 162 h) 31)).alloc (.cells (WA .u8 32 S) 22)).alloc (.cells #[.string m] 9)).alloc (.cells Tryz.zeroCells41 41)).alloc (.cells Tryz.zeroCells41 41)) (w.heap.size + 1) 31 162 h := heap_keep_alloc _ (heap_keep_alloc _ (heap_keep_alloc _ (heap_keep_alloc _ (heap_at_alloc (w.alloc (.cells (WA .u8 32 O) 22)) _ (w.heap.size + 1) (by simp)))))
 have g2 : ArrAt ((((((w.alloc (.cells (WA .u8 32 O) 22)).alloc (.cells (SC 162 h) 31)).alloc (.cells (WA .u8 32 S) 22)).alloc (.cells #[.string m] 9)).alloc (.cells Tryz.zeroCells41 41)).alloc (.cells Tryz.zeroCells41 41)) (w.heap.size + 1 + 1) .u8 22 32 S := heap_keep_alloc _ (heap_keep_alloc _ (heap_keep_alloc _ (heap_at_alloc ((w.alloc (.cells (WA .u8 32 O) 22)).alloc (.cells (SC 162 h) 31)) _ (w.heap.size + 1 + 1) (by simp))))
 have g3 : CAt ((((((w.alloc (.cells (WA .u8 32 O) 22)).alloc (.cells (SC 162 h) 31)).alloc (.cells (WA .u8 32 S) 22)).alloc (.cells #[.string m] 9)).alloc (.cells Tryz.zeroCells41 41)).alloc (.cells Tryz.zeroCells41 41)) (w.heap.size + 1 + 1 + 1) 9 (.string m) := heap_keep_alloc _ (heap_keep_alloc _ (heap_at_alloc (((w.alloc (.cells (WA .u8 32 O) 22)).alloc (.cells (SC 162 h) 31)).alloc (.cells (WA .u8 32 S) 22)) _ (w.heap.size + 1 + 1 + 1) (by simp)))
 have g4 : SAt ((((((w.alloc (.cells (WA .u8 32 O) 22)).alloc (.cells (SC 162 h) 31)).alloc (.cells (WA .u8 32 S) 22)).alloc (.cells #[.string m] 9)).alloc (.cells Tryz.zeroCells41 41)).alloc (.cells Tryz.zeroCells41 41)) (w.heap.size + 1 + 1 + 1 + 1) 41 66 paiZ := by
  have h : (((((((w.alloc (.cells (WA .u8 32 O) 22)).alloc (.cells (SC 162 h) 31)).alloc (.cells (WA .u8 32 S) 22)).alloc (.cells #[.string m] 9)).alloc (.cells Tryz.zeroCells41 41)).alloc (.cells Tryz.zeroCells41 41))).heap[(w.heap.size + 1 + 1 + 1 + 1)]? = some (.cells Tryz.zeroCells41 41) := heap_keep_alloc _ (heap_at_alloc ((((w.alloc (.cells (WA .u8 32 O) 22)).alloc (.cells (SC 162 h) 31)).alloc (.cells (WA .u8 32 S) 22)).alloc (.cells #[.string m] 9)) _ (w.heap.size + 1 + 1 + 1 + 1) (by simp))
  unfold SAt
  rw [← zeroPair]
  exact h
 have g5 : SAt ((((((w.alloc (.cells (WA .u8 32 O) 22)).alloc (.cells (SC 162 h) 31)).alloc (.cells (WA .u8 32 S) 22)).alloc (.cells #[.string m] 9)).alloc (.cells Tryz.zeroCells41 41)).alloc (.cells Tryz.zeroCells41 41)) (w.heap.size + 1 + 1 + 1 + 1 + 1) 41 66 paiZ := by
  have h : (((((((w.alloc (.cells (WA .u8 32 O) 22)).alloc (.cells (SC 162 h) 31)).alloc (.cells (WA .u8 32 S) 22)).alloc (.cells #[.string m] 9)).alloc (.cells Tryz.zeroCells41 41)).alloc (.cells Tryz.zeroCells41 41))).heap[(w.heap.size + 1 + 1 + 1 + 1 + 1)]? = some (.cells Tryz.zeroCells41 41) := heap_at_alloc (((((w.alloc (.cells (WA .u8 32 O) 22)).alloc (.cells (SC 162 h) 31)).alloc (.cells (WA .u8 32 S) 22)).alloc (.cells #[.string m] 9)).alloc (.cells Tryz.zeroCells41 41)) _ (w.heap.size + 1 + 1 + 1 + 1 + 1) (by simp)
  unfold SAt
  rw [← zeroPair]
  exact h
 replace hE := hE.kept hB
 have hss : (((((((w.alloc (.cells (WA .u8 32 O) 22)).alloc (.cells (SC 162 h) 31)).alloc (.cells (WA .u8 32 S) 22)).alloc (.cells #[.string m] 9)).alloc (.cells Tryz.zeroCells41 41)).alloc (.cells Tryz.zeroCells41 41))).heap.size = w.heap.size + 1 + 1 + 1 + 1 + 1 + 1 := by simp
 have hAt := attempt_run 54 #[.pointer (some ⟨w.heap.size, 0, none⟩), .pointer (some ⟨(w.heap.size + 1), 0, none⟩), .pointer (some ⟨(w.heap.size + 1 + 1), 0, none⟩), .pointer (some ⟨(w.heap.size + 1 + 1 + 1), 0, none⟩), .pointer (some ⟨(w.heap.size + 1 + 1 + 1 + 1 + 1), 0, none⟩)] (fun x => x = (w.heap.size + 1 + 1 + 1 + 1 + 1)) (fun x v => x = 0 ∧ SAt v (w.heap.size + 1 + 1 + 1 + 1 + 1) 41 66 V) ((((((w.alloc (.cells (WA .u8 32 O) 22)).alloc (.cells (SC 162 h) 31)).alloc (.cells (WA .u8 32 S) 22)).alloc (.cells #[.string m] 9)).alloc (.cells Tryz.zeroCells41 41)).alloc (.cells Tryz.zeroCells41 41)) enterFinishCl (fun x hx => by simp at hx ⊢; omega) (fun u hu => by
  refine ((Finish_cl w.heap.size (w.heap.size + 1) (w.heap.size + 1 + 1) (w.heap.size + 1 + 1 + 1) (w.heap.size + 1 + 1 + 1 + 1 + 1) O h S m V u (hE.kept hu) (g0.kept hu) (g1.kept hu) (g2.kept hu) (g3.kept hu) (g5.kept hu) h1V  hst).mono ?_)
  rintro e v ⟨rfl, p0, ht⟩
  exact ⟨ht, 0, .inl ⟨rfl, rfl⟩, rfl, p0⟩)
 have hmf : ∀ (fn : Fn) (first cap : Array Value) (w : World), (Instr.makeFunc fn first cap).run Tryz.prog w = .ok (.func fn first cap) w := fun _ _ _ _ => rfl
 go_enter Tryz.func15, Tryz.ntmps15
 go_wp2_with fail
 refine hAt.mono ?_
 rintro e v0 ⟨x, vc, rfl, ⟨hx, p0⟩, tT, hb⟩
 have hx' := hx.symm
 clear hx
 subst hx'
 clear hAt hmf
 replace p0 := p0.block (hb.block (w.heap.size + 1 + 1 + 1 + 1 + 1) (by omega))
 replace g4 := g4.block (tT.block (w.heap.size + 1 + 1 + 1 + 1) g4.lt (by omega))
 replace hB : Below w.heap.size w v0 := ⟨tT.os.trans hB.os, tT.tape.trans hB.tape, tT.output.trans hB.output, Nat.le_trans hB.size tT.size, fun k hk => (tT.block k (by have := hB.size; omega) (by omega)).trans (hB.block k hk)⟩
 clear tT hb hss g0 g1 g2 g3 g5 hE
 go_wp2_with (first | (refine wl_value rfl (look_st rfl isPair p0 (by rfl)) ?_) | (refine st_st isPair h1V g4 (by rfl) (by rfl) ?_; intro v9 q0 o9; refine Hid.out ?_))
 refine Hid.mk ?_
 go_wp2_with fail
 exact bodyPost_ret (v := .tuple #[.agg (SC 66 V), .int .i64 0]) (res_ct Tryz.results15 isPair q0 (by rfl) (by rfl)) rfl ⟨rfl, hB.trans (o9.below (by omega))⟩
set_option linter.unusedVariables false in
set_option maxHeartbeats 4000000 in
set_option maxRecDepth 100000 in
theorem Finish_no (O : Nat → Int) (h : Nat → Value) (S : Nat → Int) (m : ByteArray) (X : Int) (w : World) (hE : Env w) 
  (hst : ∀ u, Env u → Calls Tryz.prog 55 #[.agg (WA .u8 32 O), .agg (SC 162 h), .agg (WA .u8 32 S), .string m] u fun e w' => e = gup X ∧ Below u.heap.size u w') :
  Calls Tryz.prog 15 #[.agg (WA .u8 32 O), .agg (SC 162 h), .agg (WA .u8 32 S), .string m] w fun e w' => e = .returned (.tuple #[.agg (SC 66 paiZ), .int .i64 X]) ∧ Below w.heap.size w w' := by
 have hB : Below w.heap.size w ((((((w.alloc (.cells (WA .u8 32 O) 22)).alloc (.cells (SC 162 h) 31)).alloc (.cells (WA .u8 32 S) 22)).alloc (.cells #[.string m] 9)).alloc (.cells Tryz.zeroCells41 41)).alloc (.cells Tryz.zeroCells41 41)) := ((((((Below.refl _ w).alloc (by simp) _).alloc (by simp) _).alloc (by simp; omega) _).alloc (by simp; omega) _).alloc (by simp; omega) _).alloc (by simp; omega) _
 have g0 : ArrAt ((((((w.alloc (.cells (WA .u8 32 O) 22)).alloc (.cells (SC 162 h) 31)).alloc (.cells (WA .u8 32 S) 22)).alloc (.cells #[.string m] 9)).alloc (.cells Tryz.zeroCells41 41)).alloc (.cells Tryz.zeroCells41 41)) w.heap.size .u8 22 32 O := heap_keep_alloc _ (heap_keep_alloc _ (heap_keep_alloc _ (heap_keep_alloc _ (heap_keep_alloc _ (heap_at_alloc w _ w.heap.size (by simp))))))
 have g1 : SAt ((((((w.alloc (.cells (WA .u8 32 O) 22)).alloc (.cells (SC 162 h) 31)).alloc (.cells (WA .u8 32 S) 22)).alloc (.cells #[.string m] 9)).alloc (.cells Tryz.zeroCells41 41)).alloc (.cells Tryz.zeroCells41 41)) (w.heap.size + 1) 31 162 h := heap_keep_alloc _ (heap_keep_alloc _ (heap_keep_alloc _ (heap_keep_alloc _ (heap_at_alloc (w.alloc (.cells (WA .u8 32 O) 22)) _ (w.heap.size + 1) (by simp)))))
 have g2 : ArrAt ((((((w.alloc (.cells (WA .u8 32 O) 22)).alloc (.cells (SC 162 h) 31)).alloc (.cells (WA .u8 32 S) 22)).alloc (.cells #[.string m] 9)).alloc (.cells Tryz.zeroCells41 41)).alloc (.cells Tryz.zeroCells41 41)) (w.heap.size + 1 + 1) .u8 22 32 S := heap_keep_alloc _ (heap_keep_alloc _ (heap_keep_alloc _ (heap_at_alloc ((w.alloc (.cells (WA .u8 32 O) 22)).alloc (.cells (SC 162 h) 31)) _ (w.heap.size + 1 + 1) (by simp))))
 have g3 : CAt ((((((w.alloc (.cells (WA .u8 32 O) 22)).alloc (.cells (SC 162 h) 31)).alloc (.cells (WA .u8 32 S) 22)).alloc (.cells #[.string m] 9)).alloc (.cells Tryz.zeroCells41 41)).alloc (.cells Tryz.zeroCells41 41)) (w.heap.size + 1 + 1 + 1) 9 (.string m) := heap_keep_alloc _ (heap_keep_alloc _ (heap_at_alloc (((w.alloc (.cells (WA .u8 32 O) 22)).alloc (.cells (SC 162 h) 31)).alloc (.cells (WA .u8 32 S) 22)) _ (w.heap.size + 1 + 1 + 1) (by simp)))
 have g4 : SAt ((((((w.alloc (.cells (WA .u8 32 O) 22)).alloc (.cells (SC 162 h) 31)).alloc (.cells (WA .u8 32 S) 22)).alloc (.cells #[.string m] 9)).alloc (.cells Tryz.zeroCells41 41)).alloc (.cells Tryz.zeroCells41 41)) (w.heap.size + 1 + 1 + 1 + 1) 41 66 paiZ := by
  have h : (((((((w.alloc (.cells (WA .u8 32 O) 22)).alloc (.cells (SC 162 h) 31)).alloc (.cells (WA .u8 32 S) 22)).alloc (.cells #[.string m] 9)).alloc (.cells Tryz.zeroCells41 41)).alloc (.cells Tryz.zeroCells41 41))).heap[(w.heap.size + 1 + 1 + 1 + 1)]? = some (.cells Tryz.zeroCells41 41) := heap_keep_alloc _ (heap_at_alloc ((((w.alloc (.cells (WA .u8 32 O) 22)).alloc (.cells (SC 162 h) 31)).alloc (.cells (WA .u8 32 S) 22)).alloc (.cells #[.string m] 9)) _ (w.heap.size + 1 + 1 + 1 + 1) (by simp))
  unfold SAt
  rw [← zeroPair]
  exact h
 have g5 : SAt ((((((w.alloc (.cells (WA .u8 32 O) 22)).alloc (.cells (SC 162 h) 31)).alloc (.cells (WA .u8 32 S) 22)).alloc (.cells #[.string m] 9)).alloc (.cells Tryz.zeroCells41 41)).alloc (.cells Tryz.zeroCells41 41)) (w.heap.size + 1 + 1 + 1 + 1 + 1) 41 66 paiZ := by
  have h : (((((((w.alloc (.cells (WA .u8 32 O) 22)).alloc (.cells (SC 162 h) 31)).alloc (.cells (WA .u8 32 S) 22)).alloc (.cells #[.string m] 9)).alloc (.cells Tryz.zeroCells41 41)).alloc (.cells Tryz.zeroCells41 41))).heap[(w.heap.size + 1 + 1 + 1 + 1 + 1)]? = some (.cells Tryz.zeroCells41 41) := heap_at_alloc (((((w.alloc (.cells (WA .u8 32 O) 22)).alloc (.cells (SC 162 h) 31)).alloc (.cells (WA .u8 32 S) 22)).alloc (.cells #[.string m] 9)).alloc (.cells Tryz.zeroCells41 41)) _ (w.heap.size + 1 + 1 + 1 + 1 + 1) (by simp)
  unfold SAt
  rw [← zeroPair]
  exact h
 replace hE := hE.kept hB
 have hss : (((((((w.alloc (.cells (WA .u8 32 O) 22)).alloc (.cells (SC 162 h) 31)).alloc (.cells (WA .u8 32 S) 22)).alloc (.cells #[.string m] 9)).alloc (.cells Tryz.zeroCells41 41)).alloc (.cells Tryz.zeroCells41 41))).heap.size = w.heap.size + 1 + 1 + 1 + 1 + 1 + 1 := by simp
 have hAt := attempt_run 54 #[.pointer (some ⟨w.heap.size, 0, none⟩), .pointer (some ⟨(w.heap.size + 1), 0, none⟩), .pointer (some ⟨(w.heap.size + 1 + 1), 0, none⟩), .pointer (some ⟨(w.heap.size + 1 + 1 + 1), 0, none⟩), .pointer (some ⟨(w.heap.size + 1 + 1 + 1 + 1 + 1), 0, none⟩)] (fun x => x = (w.heap.size + 1 + 1 + 1 + 1 + 1)) (fun x v => x = X ∧ SAt v (w.heap.size + 1 + 1 + 1 + 1 + 1) 41 66 paiZ) ((((((w.alloc (.cells (WA .u8 32 O) 22)).alloc (.cells (SC 162 h) 31)).alloc (.cells (WA .u8 32 S) 22)).alloc (.cells #[.string m] 9)).alloc (.cells Tryz.zeroCells41 41)).alloc (.cells Tryz.zeroCells41 41)) enterFinishCl (fun x hx => by simp at hx ⊢; omega) (fun u hu => by
  refine ((Finish_cn w.heap.size (w.heap.size + 1) (w.heap.size + 1 + 1) (w.heap.size + 1 + 1 + 1) (w.heap.size + 1 + 1 + 1 + 1 + 1) O h S m X u (hE.kept hu) (g0.kept hu) (g1.kept hu) (g2.kept hu) (g3.kept hu) hst).mono ?_)
  rintro e v ⟨rfl, hb⟩
  exact ⟨touch_le hb, X, .inr rfl, rfl, (g5.kept hu).kept hb⟩)
 have hmf : ∀ (fn : Fn) (first cap : Array Value) (w : World), (Instr.makeFunc fn first cap).run Tryz.prog w = .ok (.func fn first cap) w := fun _ _ _ _ => rfl
 go_enter Tryz.func15, Tryz.ntmps15
 go_wp2_with fail
 refine hAt.mono ?_
 rintro e v0 ⟨x, vc, rfl, ⟨hx, p0⟩, tT, hb⟩
 have hx' := hx.symm
 clear hx
 subst hx'
 clear hAt hmf
 replace p0 := p0.block (hb.block (w.heap.size + 1 + 1 + 1 + 1 + 1) (by omega))
 replace g4 := g4.block (tT.block (w.heap.size + 1 + 1 + 1 + 1) g4.lt (by omega))
 replace hB : Below w.heap.size w v0 := ⟨tT.os.trans hB.os, tT.tape.trans hB.tape, tT.output.trans hB.output, Nat.le_trans hB.size tT.size, fun k hk => (tT.block k (by have := hB.size; omega) (by omega)).trans (hB.block k hk)⟩
 clear tT hb hss g0 g1 g2 g3 g5 hE
 go_wp2_with (first | (refine wl_value rfl (look_st rfl isPair p0 (by rfl)) ?_) | (refine st_st isPair (paiV_one _ _ _ _) g4 (by rfl) (by rfl) ?_; intro v9 q0 o9; refine Hid.out ?_))
 refine Hid.mk ?_
 go_wp2_with fail
 exact bodyPost_ret (v := .tuple #[.agg (SC 66 paiZ), .int .i64 X]) (res_ct Tryz.results15 isPair q0 (by rfl) (by rfl)) rfl ⟨rfl, hB.trans (o9.below (by omega))⟩
theorem enterMarkCl (args : Array Value) (w : World) : (callFunc 59 args).run Tryz.prog w = .ok (.enter 59 args) w := by kernel_rfl
set_option maxHeartbeats 1600000 in
theorem Mark_cl (b0 b1 b2 b3 : Nat) (m : ByteArray) (to : Nat → Int) (c : ByteArray) (MS : ByteArray) (u : World) (hE : Env u) (c0 : CAt u b0 9 (.string m)) (c1 : ArrAt u b1 .u8 22 32 to) (c2 : CAt u b2 9 (.string c)) (c3 : CAt u b3 9 (.string ⟨#[]⟩))  
  (hst : ∀ u, Env u → Calls Tryz.prog 60 #[.string m, .agg (WA .u8 32 to), .string c] u fun e w' => e = .returned (.string MS) ∧ Below u.heap.size u w') :
  Calls Tryz.prog 59 #[.pointer (some ⟨b0, 0, none⟩), .pointer (some ⟨b1, 0, none⟩), .pointer (some ⟨b2, 0, none⟩), .pointer (some ⟨b3, 0, none⟩)] u fun e w' => e = .returned (.tuple #[]) ∧ CAt w' b3 9 (.string MS) ∧ Touch (fun x => x = b3) u w' := by
 have touch_or0 : ∀ {p q : World}, Only b3 p q → Touch (fun x => x = b3) p q := fun o => ⟨o.os, o.tape, o.output, by rw [o.size]; exact Nat.le_refl _, fun k _ hn => o.block k (fun h => hn (by simp [h]))⟩
 have e0 := c0.at
 have e2 := c2.at
 go_enter Tryz.func59, Tryz.ntmps59
 go_wp2_with (first | (refine ld_arr isArr32 c1 (by rfl) ?_))
 refine (hst _ hE).mono ?_
 rintro x v1 ⟨rfl, hb⟩
 replace c3 := c3.kept hb
 have ht : Touch (fun x => x = b3) u v1 := touch_le hb
 clear hb
 have s0 := c3.at
 have z0 := c3.free
 have d0 := Hid.mk (c3.set (.string MS))
 have ht0 : Touch (fun x => x = b3) u (v1.setCell ⟨b3, 0, none⟩ (.string MS)) := touch_tr ht (touch_or0 only_set)
 replace ht := ht0
 clear ht0 c3
 go_wp2_with fail
 exact bodyPost_end (results_none rfl _ _ _) rfl ⟨rfl, d0.out, ht⟩
set_option maxHeartbeats 1600000 in
theorem Mark_cn (b0 b1 b2 b3 : Nat) (m : ByteArray) (to : Nat → Int) (c : ByteArray) (X : Int) (u : World) (hE : Env u) (c0 : CAt u b0 9 (.string m)) (c1 : ArrAt u b1 .u8 22 32 to) (c2 : CAt u b2 9 (.string c))
  (hst : ∀ u, Env u → Calls Tryz.prog 60 #[.string m, .agg (WA .u8 32 to), .string c] u fun e w' => e = gup X ∧ Below u.heap.size u w') :
  Calls Tryz.prog 59 #[.pointer (some ⟨b0, 0, none⟩), .pointer (some ⟨b1, 0, none⟩), .pointer (some ⟨b2, 0, none⟩), .pointer (some ⟨b3, 0, none⟩)] u fun e w' => e = gup X ∧ Below u.heap.size u w' := by
 have e0 := c0.at
 have e2 := c2.at
 go_enter Tryz.func59, Tryz.ntmps59
 go_wp2_with (first | (refine ld_arr isArr32 c1 (by rfl) ?_))
 refine (hst _ hE).mono ?_
 rintro x v1 ⟨rfl, hb⟩
 exact ⟨rfl, rfl, hb⟩
set_option linter.unusedVariables false in
set_option maxHeartbeats 4000000 in
set_option maxRecDepth 100000 in
theorem Mark_ok (m : ByteArray) (to : Nat → Int) (c : ByteArray) (MS : ByteArray) (w : World) (hE : Env w) 
  (hst : ∀ u, Env u → Calls Tryz.prog 60 #[.string m, .agg (WA .u8 32 to), .string c] u fun e w' => e = .returned (.string MS) ∧ Below u.heap.size u w') :
  Calls Tryz.prog 19 #[.string m, .agg (WA .u8 32 to), .string c] w fun e w' => e = .returned (.tuple #[.string MS, .int .i64 0]) ∧ Below w.heap.size w w' := by
 have hB : Below w.heap.size w ((((w.alloc (.cells #[.string m] 9)).alloc (.cells (WA .u8 32 to) 22)).alloc (.cells #[.string c] 9)).alloc (.cells #[.string ⟨#[]⟩] 9)) := ((((Below.refl _ w).alloc (by simp) _).alloc (by simp) _).alloc (by simp; omega) _).alloc (by simp; omega) _
 have g0 : CAt ((((w.alloc (.cells #[.string m] 9)).alloc (.cells (WA .u8 32 to) 22)).alloc (.cells #[.string c] 9)).alloc (.cells #[.string ⟨#[]⟩] 9)) w.heap.size 9 (.string m) := heap_keep_alloc _ (heap_keep_alloc _ (heap_keep_alloc _ (heap_at_alloc w _ w.heap.size (by simp))))
 have g1 : ArrAt ((((w.alloc (.cells #[.string m] 9)).alloc (.cells (WA .u8 32 to) 22)).alloc (.cells #[.string c] 9)).alloc (.cells #[.string ⟨#[]⟩] 9)) (w.heap.size + 1) .u8 22 32 to := heap_keep_alloc _ (heap_keep_alloc _ (heap_at_alloc (w.alloc (.cells #[.string m] 9)) _ (w.heap.size + 1) (by simp)))
 have g2 : CAt ((((w.alloc (.cells #[.string m] 9)).alloc (.cells (WA .u8 32 to) 22)).alloc (.cells #[.string c] 9)).alloc (.cells #[.string ⟨#[]⟩] 9)) (w.heap.size + 1 + 1) 9 (.string c) := heap_keep_alloc _ (heap_at_alloc ((w.alloc (.cells #[.string m] 9)).alloc (.cells (WA .u8 32 to) 22)) _ (w.heap.size + 1 + 1) (by simp))
 have g3 : CAt ((((w.alloc (.cells #[.string m] 9)).alloc (.cells (WA .u8 32 to) 22)).alloc (.cells #[.string c] 9)).alloc (.cells #[.string ⟨#[]⟩] 9)) (w.heap.size + 1 + 1 + 1) 9 (.string ⟨#[]⟩) := heap_at_alloc (((w.alloc (.cells #[.string m] 9)).alloc (.cells (WA .u8 32 to) 22)).alloc (.cells #[.string c] 9)) _ (w.heap.size + 1 + 1 + 1) (by simp)
 replace hE := hE.kept hB
 have hss : (((((w.alloc (.cells #[.string m] 9)).alloc (.cells (WA .u8 32 to) 22)).alloc (.cells #[.string c] 9)).alloc (.cells #[.string ⟨#[]⟩] 9))).heap.size = w.heap.size + 1 + 1 + 1 + 1 := by simp
 have hAt := attempt_run 59 #[.pointer (some ⟨w.heap.size, 0, none⟩), .pointer (some ⟨(w.heap.size + 1), 0, none⟩), .pointer (some ⟨(w.heap.size + 1 + 1), 0, none⟩), .pointer (some ⟨(w.heap.size + 1 + 1 + 1), 0, none⟩)] (fun x => x = (w.heap.size + 1 + 1 + 1)) (fun x v => x = 0 ∧ CAt v (w.heap.size + 1 + 1 + 1) 9 (.string MS)) ((((w.alloc (.cells #[.string m] 9)).alloc (.cells (WA .u8 32 to) 22)).alloc (.cells #[.string c] 9)).alloc (.cells #[.string ⟨#[]⟩] 9)) enterMarkCl (fun x hx => by simp at hx ⊢; omega) (fun u hu => by
  refine ((Mark_cl w.heap.size (w.heap.size + 1) (w.heap.size + 1 + 1) (w.heap.size + 1 + 1 + 1) m to c MS u (hE.kept hu) (g0.kept hu) (g1.kept hu) (g2.kept hu) (g3.kept hu)   hst).mono ?_)
  rintro e v ⟨rfl, p0, ht⟩
  exact ⟨ht, 0, .inl ⟨rfl, rfl⟩, rfl, p0⟩)
 have hmf : ∀ (fn : Fn) (first cap : Array Value) (w : World), (Instr.makeFunc fn first cap).run Tryz.prog w = .ok (.func fn first cap) w := fun _ _ _ _ => rfl
 go_enter Tryz.func19, Tryz.ntmps19
 go_wp2_with fail
 refine hAt.mono ?_
 rintro e v0 ⟨x, vc, rfl, ⟨hx, p0⟩, tT, hb⟩
 have hx' := hx.symm
 clear hx
 subst hx'
 clear hAt hmf
 replace p0 := p0.block (hb.block (w.heap.size + 1 + 1 + 1) (by omega))
 replace hB : Below w.heap.size w v0 := ⟨tT.os.trans hB.os, tT.tape.trans hB.tape, tT.output.trans hB.output, Nat.le_trans hB.size tT.size, fun k hk => (tT.block k (by have := hB.size; omega) (by omega)).trans (hB.block k hk)⟩
 clear tT hb hss g0 g1 g2 g3 hE
 have e0 := p0.at
 go_wp2_with fail
 exact bodyPost_ret (v := .tuple #[.string MS, .int .i64 0]) (results_two Tryz.results19 (by rfl) (by rfl)) rfl ⟨rfl, hB⟩
set_option linter.unusedVariables false in
set_option maxHeartbeats 4000000 in
set_option maxRecDepth 100000 in
theorem Mark_no (m : ByteArray) (to : Nat → Int) (c : ByteArray) (X : Int) (w : World) (hE : Env w) 
  (hst : ∀ u, Env u → Calls Tryz.prog 60 #[.string m, .agg (WA .u8 32 to), .string c] u fun e w' => e = gup X ∧ Below u.heap.size u w') :
  Calls Tryz.prog 19 #[.string m, .agg (WA .u8 32 to), .string c] w fun e w' => e = .returned (.tuple #[.string ⟨#[]⟩, .int .i64 X]) ∧ Below w.heap.size w w' := by
 have hB : Below w.heap.size w ((((w.alloc (.cells #[.string m] 9)).alloc (.cells (WA .u8 32 to) 22)).alloc (.cells #[.string c] 9)).alloc (.cells #[.string ⟨#[]⟩] 9)) := ((((Below.refl _ w).alloc (by simp) _).alloc (by simp) _).alloc (by simp; omega) _).alloc (by simp; omega) _
 have g0 : CAt ((((w.alloc (.cells #[.string m] 9)).alloc (.cells (WA .u8 32 to) 22)).alloc (.cells #[.string c] 9)).alloc (.cells #[.string ⟨#[]⟩] 9)) w.heap.size 9 (.string m) := heap_keep_alloc _ (heap_keep_alloc _ (heap_keep_alloc _ (heap_at_alloc w _ w.heap.size (by simp))))
 have g1 : ArrAt ((((w.alloc (.cells #[.string m] 9)).alloc (.cells (WA .u8 32 to) 22)).alloc (.cells #[.string c] 9)).alloc (.cells #[.string ⟨#[]⟩] 9)) (w.heap.size + 1) .u8 22 32 to := heap_keep_alloc _ (heap_keep_alloc _ (heap_at_alloc (w.alloc (.cells #[.string m] 9)) _ (w.heap.size + 1) (by simp)))
 have g2 : CAt ((((w.alloc (.cells #[.string m] 9)).alloc (.cells (WA .u8 32 to) 22)).alloc (.cells #[.string c] 9)).alloc (.cells #[.string ⟨#[]⟩] 9)) (w.heap.size + 1 + 1) 9 (.string c) := heap_keep_alloc _ (heap_at_alloc ((w.alloc (.cells #[.string m] 9)).alloc (.cells (WA .u8 32 to) 22)) _ (w.heap.size + 1 + 1) (by simp))
 have g3 : CAt ((((w.alloc (.cells #[.string m] 9)).alloc (.cells (WA .u8 32 to) 22)).alloc (.cells #[.string c] 9)).alloc (.cells #[.string ⟨#[]⟩] 9)) (w.heap.size + 1 + 1 + 1) 9 (.string ⟨#[]⟩) := heap_at_alloc (((w.alloc (.cells #[.string m] 9)).alloc (.cells (WA .u8 32 to) 22)).alloc (.cells #[.string c] 9)) _ (w.heap.size + 1 + 1 + 1) (by simp)
 replace hE := hE.kept hB
 have hss : (((((w.alloc (.cells #[.string m] 9)).alloc (.cells (WA .u8 32 to) 22)).alloc (.cells #[.string c] 9)).alloc (.cells #[.string ⟨#[]⟩] 9))).heap.size = w.heap.size + 1 + 1 + 1 + 1 := by simp
 have hAt := attempt_run 59 #[.pointer (some ⟨w.heap.size, 0, none⟩), .pointer (some ⟨(w.heap.size + 1), 0, none⟩), .pointer (some ⟨(w.heap.size + 1 + 1), 0, none⟩), .pointer (some ⟨(w.heap.size + 1 + 1 + 1), 0, none⟩)] (fun x => x = (w.heap.size + 1 + 1 + 1)) (fun x v => x = X ∧ CAt v (w.heap.size + 1 + 1 + 1) 9 (.string ⟨#[]⟩)) ((((w.alloc (.cells #[.string m] 9)).alloc (.cells (WA .u8 32 to) 22)).alloc (.cells #[.string c] 9)).alloc (.cells #[.string ⟨#[]⟩] 9)) enterMarkCl (fun x hx => by simp at hx ⊢; omega) (fun u hu => by
  refine ((Mark_cn w.heap.size (w.heap.size + 1) (w.heap.size + 1 + 1) (w.heap.size + 1 + 1 + 1) m to c X u (hE.kept hu) (g0.kept hu) (g1.kept hu) (g2.kept hu) hst).mono ?_)
  rintro e v ⟨rfl, hb⟩
  exact ⟨touch_le hb, X, .inr rfl, rfl, (g3.kept hu).kept hb⟩)
 have hmf : ∀ (fn : Fn) (first cap : Array Value) (w : World), (Instr.makeFunc fn first cap).run Tryz.prog w = .ok (.func fn first cap) w := fun _ _ _ _ => rfl
 go_enter Tryz.func19, Tryz.ntmps19
 go_wp2_with fail
 refine hAt.mono ?_
 rintro e v0 ⟨x, vc, rfl, ⟨hx, p0⟩, tT, hb⟩
 have hx' := hx.symm
 clear hx
 subst hx'
 clear hAt hmf
 replace p0 := p0.block (hb.block (w.heap.size + 1 + 1 + 1) (by omega))
 replace hB : Below w.heap.size w v0 := ⟨tT.os.trans hB.os, tT.tape.trans hB.tape, tT.output.trans hB.output, Nat.le_trans hB.size tT.size, fun k hk => (tT.block k (by have := hB.size; omega) (by omega)).trans (hB.block k hk)⟩
 clear tT hb hss g0 g1 g2 g3 hE
 have e0 := p0.at
 go_wp2_with fail
 exact bodyPost_ret (v := .tuple #[.string ⟨#[]⟩, .int .i64 X]) (results_two Tryz.results19 (by rfl) (by rfl)) rfl ⟨rfl, hB⟩
end Go.Proofs.YthghcjepdhkfdaaGreatDoor

