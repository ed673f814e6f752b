/-
  Own text. PROVED: called with any two ends' keys and any message with a shared key, in whatever memory in which the package variables 'prime', 'beginnings' and 'orders' hold what the program's own text lays into them, the law NoiseMeets returns true and leaves its arguments as they were. Conditions: the row's own (the three tied variables), no other.
-/
import Derived.Test.YthghcjepdhkfdaaGreatDoorJM2
import Derived.Test.YthghcjepdhkfdaaGreatDoorJM11
import Derived.JoinedCond
import Derived.Carry
import Derived.SizedLaws
namespace Go.Proofs.YthghcjepdhkfdaaGreatDoor
open Go.ChangeShapes Go.WideShapes Go.ChangeAt Go.WideMaps Go.WideElems Go.ChangeMaps Go.RowKit Go.Proofs
set_option maxRecDepth 100000
set_option maxRecDepth 100000 in
theorem lifted_noiseMeets (os : Os) (started : os.Started) (H : Type) (enc : TypeId × Value → H) (F : Stop.Interp) :
    ReturnsInHanded {} Tryz.checked os 5 .any ((OpenSpec.ofChange Rows.noiseMeetsSpec).preRow enc Tryz.prog Tryz.f5 Rows.noiseMeetsRow.domain false Rows.noiseMeetsRow.laid) (((OpenSpec.ofChange Rows.noiseMeetsSpec).at F).post enc Tryz.prog Tryz.f5 false true false false) := by
  refine returnsInHanded_of_row (C := Tryz.checked) (s := (OpenSpec.ofChange Rows.noiseMeetsSpec)) own started (by kernel_rfl) Tryz.func5
    (witness_row_at (enc := enc) (C := Tryz.checked) false (World.doorLaid Tryz.prog 400 os) #[.agg (SC 65 (keyV (fun _ => 0) (fun _ => 0) 0)), .agg (SC 65 (keyV (fun _ => 0) (fun _ => 0) 0)), .agg (SC 33 (shaV ⟨#[]⟩ (fun _ => 0)))] rfl (by kernel_rfl) (by kernel_rfl) (by kernel_rfl)
      (OpenSpec.preRow_of_cond 8 (x := ([.agg [.agg ((List.range 32).map fun _ => .lit (.int .u8 0)), .agg ((List.range 32).map fun _ => .lit (.int .u8 0)), .lit (.int .u32 0)], .agg [.agg ((List.range 32).map fun _ => .lit (.int .u8 0)), .agg ((List.range 32).map fun _ => .lit (.int .u8 0)), .lit (.int .u32 0)], .agg [.lit (.string []), .agg ((List.range 32).map fun _ => .lit (.int .u8 0))]], [], [])) (by kernel_rfl) (by kernel_rfl) (fun k hk => by cases hk) (by kernel_rfl) (door_met os _))) ?_
  intro W base args ds gs before hval0 hW _ hk hsz0 hL _ _
  have hT := laid_all hL
  have hval : ∀ (j : Nat) t v, Tryz.f5.params[j]? = some t → args[j]? = some v → Value.okWide Tryz.prog W .any base t v := hval0
  have hW' := hW
  obtain ⟨p, q, hA0, hV, rfl, hfz, hnd⟩ := hW
  have hA : DataW.TrodAll enc Tryz.prog W 0 (fun _ => true) true Tryz.f5.params.toList args.toList ds p := hA0
  have hsz : (DataW.weightsEach Tryz.prog (Tryz.f5.params.toList ++ Rows.noiseMeetsSpec.plain.varTypes Tryz.prog) (ds ++ gs)).all (· ≤ reachBytes) = true := hsz0
  clear hk
  rw [Tryz.params5] at hA hval hsz
  obtain ⟨v0, vs0, d0, ds0, p0, q0, hargs, rfl, rfl, h0, r0⟩ := trodAll_cons hA
  obtain ⟨v1, vs1, d1, ds1, p1, q1, rfl, rfl, rfl, h1, r1⟩ := trodAll_cons r0
  obtain ⟨v2, vs2, d2, ds2, p2, q2, rfl, rfl, rfl, h2, r2⟩ := trodAll_cons r1
  obtain ⟨rfl, rfl, rfl⟩ := trodAll_nil r2
  obtain rfl : args = #[v0, v1, v2] := by cases args; simp_all
  obtain ⟨rfl, rfl⟩ := trodVars_none hV
  obtain ⟨O0, E0, ix0, wO0, wE0, wi0, rfl, rfl⟩ := open_key (hval 0 25 v0 rfl rfl) h0
  obtain ⟨O1, E1, ix1, wO1, wE1, wi1, rfl, rfl⟩ := open_key (hval 1 25 v1 rfl rfl) h1
  obtain ⟨m2, S2, wS2, rfl, rfl⟩ := open_sha (hval 2 39 v2 rfl rfl) h2
  clear hA0 hval0
  simp only [List.append_nil] at hW'

  refine (meets_walk O0 O1 E0 E1 S2 ix0 ix1 m2 W hT wO0 wO1 wE0 wE1 wS2 wi0 wi1).mono fun e W' ⟨he, hg⟩ => ?_
  subst he
  refine ⟨_, rfl, _, _, _, [], [], [], hW', trodAll_mk1 (shut_bool Tryz.underlying4 true), ?_, rfl, hg.frame _, fun h => by cases h⟩
  exact (trodAll_cons_mk (Below.trod laidOut key_rec key_row h0 hg (fun _ h => by cases h)) (trodAll_cons_mk (Below.trod laidOut key_rec key_row h1 hg (fun _ h => by cases h)) (trodAll_cons_mk (Below.trod laidOut sha_rec sha_row h2 hg (fun _ h => by cases h)) trodAll_mk0)))
theorem row_noiseMeets : Rows.NoiseMeetsSaid :=
  OpenClaim.holds_of_cond 5 Tryz.f5 rfl rfl rfl rfl rfl rfl rfl ⟨rfl, rfl, rfl, rfl, rfl⟩ rfl rfl rfl rfl rfl (by kernel_rfl) Tryz.func5 (by kernel_rfl)
    (of_decide_eq_true (by kernel_rfl)) (by unfold Func.isWrapper; first | (rw [if_pos (by decide +kernel)]; kernel_rfl) | (rw [if_neg (by decide +kernel)]; exact ⟨rfl, rfl⟩))
    (fun os started H enc _ F => by rw [OpenClaim.pre_eq_preRow]; exact lifted_noiseMeets os started H enc F)
theorem noiseMeets_holds : Rows.NoiseMeetsCardSaid :=
  Claim7.holds_tied_plain_at .later [] _ _ _ _ row_noiseMeets (fun _ h => by cases h) (by kernel_rfl) (fun _ h => by cases h) noiseMeets_row_tie rfl ⟨rfl, rfl⟩ (by kernel_rfl) rfl
    (fun f fn hf hfn => by
      obtain rfl : f = 5 := Option.some.inj ((show Tryz.prog.funcNamed Rows.noiseMeetsRow.func = some 5 by kernel_rfl).symm.trans hf) |>.symm
      obtain rfl : fn = Tryz.f5 := (Option.some.inj (Tryz.func5.symm.trans hfn)).symm
      exact ⟨by kernel_rfl, fun j t ht => by
        rw [Tryz.params5] at ht
        have hm : t ∈ [25, 25, 39] := by simpa using Array.mem_of_getElem? ht
        have hall : ([25, 25, 39].all fun u => !Tryz.prog.wantsStandIn u) = true := by kernel_rfl
        exact (show Tryz.prog.wantsStandIn t = false by simpa using List.all_eq_true.1 hall t hm)⟩)
    (by kernel_rfl)
#print axioms noiseMeets_holds
end Go.Proofs.YthghcjepdhkfdaaGreatDoor

