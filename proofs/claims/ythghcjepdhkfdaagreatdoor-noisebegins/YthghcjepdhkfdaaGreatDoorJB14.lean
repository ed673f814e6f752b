/-
  Own text. PROVED: called with any end's keys, any 32 bytes and any message with a stamp, in whatever memory in which the package variables 'prime', 'beginnings' and 'orders' hold what the program's own text lays into them, the law NoiseBegins returns true and leaves its arguments as they were. Conditions: the row's own (the three tied variables), no other.
-/
import Derived.Test.YthghcjepdhkfdaaGreatDoorJB2
import Derived.Test.YthghcjepdhkfdaaGreatDoorJB13
import Derived.JoinedCond
import Derived.Carry
import Derived.SizedLaws
namespace Go.Proofs.YthghcjepdhkfdaaGreatDoor
open Go.ChangeShapes Go.WideShapes Go.ChangeAt Go.WideMaps Go.WideElems Go.ChangeMaps Go.RowKit Go.Proofs
set_option maxRecDepth 100000
set_option maxRecDepth 100000 in
theorem lifted_noiseBegins (os : Os) (started : os.Started) (H : Type) (enc : TypeId × Value → H) (F : Stop.Interp) :
    ReturnsInHanded {} Tryz.checked os 3 .any ((OpenSpec.ofChange Rows.noiseBeginsSpec).preRow enc Tryz.prog Tryz.f3 Rows.noiseBeginsRow.domain false Rows.noiseBeginsRow.laid) (((OpenSpec.ofChange Rows.noiseBeginsSpec).at F).post enc Tryz.prog Tryz.f3 false true false false) := by
  refine returnsInHanded_of_row (C := Tryz.checked) (s := (OpenSpec.ofChange Rows.noiseBeginsSpec)) own started (by kernel_rfl) Tryz.func3
    (witness_row_at (enc := enc) (C := Tryz.checked) false (World.doorLaid Tryz.prog 400 os) #[.agg (SC 65 (Iv (fun _ => 0) (fun _ => 0) 0)), .agg (WA .u8 32 fun _ => 0), .agg (SC 13 (JM ⟨#[]⟩ (fun _ => 0)))] rfl (by kernel_rfl) (by kernel_rfl) (by kernel_rfl)
      (OpenSpec.preRow_of_cond 8 (x := ([.agg [.agg ((List.range 32).map fun _ => .lit (.int .u8 0)), .agg ((List.range 32).map fun _ => .lit (.int .u8 0)), .lit (.int .u32 0)], .agg ((List.range 32).map fun _ => .lit (.int .u8 0)), .agg [.lit (.string []), .agg ((List.range 12).map fun _ => .lit (.int .u8 0))]], [], [])) (by kernel_rfl) (by kernel_rfl) (fun k hk => by cases hk) (by kernel_rfl) (Vp os _))) ?_
  intro W base args ds gs before hval0 hW _ hk hsz0 hL _ _
  have hT := Vq hL
  have hval : ∀ (j : Nat) t v, Tryz.f3.params[j]? = some t → args[j]? = some v → Value.okWide Tryz.prog W .any base t v := hval0
  have hW' := hW
  obtain ⟨p, q, hA0, hV, rfl, hfz, hnd⟩ := hW
  have hA : DataW.TrodAll enc Tryz.prog W 0 (fun _ => true) true Tryz.f3.params.toList args.toList ds p := hA0
  have hsz : (DataW.weightsEach Tryz.prog (Tryz.f3.params.toList ++ Rows.noiseBeginsSpec.plain.varTypes Tryz.prog) (ds ++ gs)).all (· ≤ reachBytes) = true := hsz0
  clear hk
  rw [Tryz.params3] at hA hval hsz
  obtain ⟨v0, vs0, d0, ds0, p0, q0, hargs, rfl, rfl, h0, r0⟩ := trodAll_cons hA
  obtain ⟨v1, vs1, d1, ds1, p1, q1, rfl, rfl, rfl, h1, r1⟩ := trodAll_cons r0
  obtain ⟨v2, vs2, d2, ds2, p2, q2, rfl, rfl, rfl, h2, r2⟩ := trodAll_cons r1
  obtain ⟨rfl, rfl, rfl⟩ := trodAll_nil r2
  obtain rfl : args = #[v0, v1, v2] := by cases args; simp_all
  obtain ⟨rfl, rfl⟩ := trodVars_none hV
  obtain ⟨O0, E0, ix0, wO0, wE0, wi0, rfl, rfl⟩ := XU (hval 0 25 v0 rfl rfl) h0
  obtain ⟨s1, w1, rfl, rfl⟩ := UM (t := 22) Tryz.underlying22 Ry (hval 1 22 v1 rfl rfl) h1
  obtain ⟨m2, S2, wS2, rfl, rfl⟩ := XV (hval 2 28 v2 rfl rfl) h2
  clear hA0 hval0
  simp only [List.append_nil] at hW'

  refine (PK O0 E0 s1 S2 ix0 m2 W hT wO0 wE0 w1 wS2 wi0).mono fun e W' ⟨he, hg⟩ => ?_
  subst he
  refine ⟨_, rfl, _, _, _, [], [], [], hW', trodAll_mk1 (shut_bool Tryz.underlying4 true), ?_, rfl, hg.frame _, fun h => by cases h⟩
  exact (trodAll_cons_mk (Below.trod Ny ZC ZD h0 hg (fun _ h => by cases h)) (trodAll_cons_mk (Below.trod Ny M9 MA h1 hg (fun _ h => by cases h)) (trodAll_cons_mk (Below.trod Ny ZE ZF h2 hg (fun _ h => by cases h)) trodAll_mk0)))
theorem row_noiseBegins : Rows.NoiseBeginsSaid :=
  OpenClaim.holds_of_cond 3 Tryz.f3 rfl rfl rfl rfl rfl rfl rfl ⟨rfl, rfl, rfl, rfl, rfl⟩ rfl rfl rfl rfl rfl (by kernel_rfl) Tryz.func3 (by kernel_rfl)
    (of_decide_eq_true (by kernel_rfl)) (by unfold Func.isWrapper; first | (rw [if_pos (by decide +kernel)]; kernel_rfl) | (rw [if_neg (by decide +kernel)]; exact ⟨rfl, rfl⟩))
    (fun os started H enc _ F => by rw [OpenClaim.pre_eq_preRow]; exact lifted_noiseBegins os started H enc F)
theorem noiseBegins_holds : Rows.NoiseBeginsCardSaid :=
  Claim7.holds_tied_plain_at .later [] _ _ _ _ row_noiseBegins (fun _ h => by cases h) (by kernel_rfl) (fun _ h => by cases h) noiseBegins_row_tie rfl ⟨rfl, rfl⟩ (by kernel_rfl) rfl
    (fun f fn hf hfn => by
      obtain rfl : f = 3 := Option.some.inj ((show Tryz.prog.funcNamed Rows.noiseBeginsRow.func = some 3 by kernel_rfl).symm.trans hf) |>.symm
      obtain rfl : fn = Tryz.f3 := (Option.some.inj (Tryz.func3.symm.trans hfn)).symm
      exact ⟨by kernel_rfl, fun j t ht => by
        rw [Tryz.params3] at ht
        have hm : t ∈ [25, 22, 28] := by simpa using Array.mem_of_getElem? ht
        have hall : ([25, 22, 28].all fun u => !Tryz.prog.wantsStandIn u) = true := by kernel_rfl
        exact (show Tryz.prog.wantsStandIn t = false by simpa using List.all_eq_true.1 hall t hm)⟩)
    (by kernel_rfl)
#print axioms noiseBegins_holds
end Go.Proofs.YthghcjepdhkfdaaGreatDoor

