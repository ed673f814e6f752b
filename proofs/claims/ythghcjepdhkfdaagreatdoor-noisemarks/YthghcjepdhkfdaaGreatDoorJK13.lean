/-
  Own text. PROVED: called with any two keys, nonce, endpoint and texts, and any further text, in whatever memory in which the package variables 'prime', 'beginnings' and 'orders' hold what the program's own text lays into them, the law NoiseMarks returns true and leaves its arguments as they were. Conditions: the row's own (the three tied variables), no other.
-/
import Derived.Test.YthghcjepdhkfdaaGreatDoorJK2
import Derived.Test.YthghcjepdhkfdaaGreatDoorJK12
import Derived.JoinedCond
import Derived.Carry
import Derived.SizedLaws
namespace Go.Proofs.YthghcjepdhkfdaaGreatDoor
open Go.ChangeShapes Go.WideShapes Go.ChangeAt Go.WideMaps Go.WideElems Go.ChangeMaps Go.RowKit Go.Proofs
set_option maxRecDepth 100000
set_option maxRecDepth 100000 in
theorem lifted_noiseMarks (os : Os) (started : os.Started) (H : Type) (enc : TypeId × Value → H) (F : Stop.Interp) :
    ReturnsInHanded {} Tryz.checked os 6 .any ((OpenSpec.ofChange Rows.noiseMarksSpec).preRow enc Tryz.prog Tryz.f6 Rows.noiseMarksRow.domain false Rows.noiseMarksRow.laid) (((OpenSpec.ofChange Rows.noiseMarksSpec).at F).post enc Tryz.prog Tryz.f6 false true false false) := by
  refine returnsInHanded_of_row (C := Tryz.checked) (s := (OpenSpec.ofChange Rows.noiseMarksSpec)) own started (by kernel_rfl) Tryz.func6
    (witness_row_at (enc := enc) (C := Tryz.checked) false (World.doorLaid Tryz.prog 400 os) #[.agg (SC 108 (mrsV (fun _ => 0) (fun _ => 0) (fun _ => 0) false (fun _ => 0) 0 ⟨#[]⟩ ⟨#[]⟩)), .string ⟨#[]⟩] rfl (by kernel_rfl) (by kernel_rfl) (by kernel_rfl)
      (OpenSpec.preRow_of_cond 8 (x := ([.agg [.agg ((List.range 32).map fun _ => .lit (.int .u8 0)), .agg ((List.range 32).map fun _ => .lit (.int .u8 0)), .agg ((List.range 24).map fun _ => .lit (.int .u8 0)), .agg [.agg [.lit (.bool false), .agg ((List.range 16).map fun _ => .lit (.int .u8 0))], .lit (.int .i64 0)], .lit (.string []), .lit (.string [])], .lit (.string [])], [], [])) (by kernel_rfl) (by kernel_rfl) (fun k hk => by cases hk) (by kernel_rfl) (door_met os _))) ?_
  intro W base args ds gs before hval0 hW _ hk hsz0 hL _ _
  have hT := laid_all hL
  have hval : ∀ (j : Nat) t v, Tryz.f6.params[j]? = some t → args[j]? = some v → Value.okWide Tryz.prog W .any base t v := hval0
  have hW' := hW
  obtain ⟨p, q, hA0, hV, rfl, hfz, hnd⟩ := hW
  have hA : DataW.TrodAll enc Tryz.prog W 0 (fun _ => true) true Tryz.f6.params.toList args.toList ds p := hA0
  have hsz : (DataW.weightsEach Tryz.prog (Tryz.f6.params.toList ++ Rows.noiseMarksSpec.plain.varTypes Tryz.prog) (ds ++ gs)).all (· ≤ reachBytes) = true := hsz0
  clear hk
  rw [Tryz.params6] at hA hval hsz
  obtain ⟨v0, vs0, d0, ds0, p0, q0, hargs, rfl, rfl, h0, r0⟩ := trodAll_cons hA
  obtain ⟨v1, vs1, d1, ds1, p1, q1, rfl, rfl, rfl, h1, r1⟩ := trodAll_cons r0
  obtain ⟨rfl, rfl, rfl⟩ := trodAll_nil r1
  obtain rfl : args = #[v0, v1] := by cases args; simp_all
  obtain ⟨rfl, rfl⟩ := trodVars_none hV
  obtain ⟨T0, Sc0, Nn0, z0, B0, q0, m0, c0, wT0, wS0, wN0, wB0, rfl, rfl⟩ := open_mrs (hval 0 60 v0 rfl rfl) h0
  obtain ⟨a1, rfl, rfl, rfl, w1⟩ := open_string Tryz.underlying9 (hval 1 9 v1 rfl rfl) h1
  have hl1 : a1.data.toList.length ≤ reachBytes := sized_string hsz (j := 1) (t := 9) rfl rfl
  clear hA0 hval0
  simp only [List.append_nil] at hW'

  refine (marks_walk T0 Sc0 Nn0 z0 B0 q0 m0 c0 a1 W hT wT0 wS0 wN0 wB0 (reach_size hl1)).mono fun e W' ⟨he, hg⟩ => ?_
  subst he
  refine ⟨_, rfl, _, _, _, [], [], [], hW', trodAll_mk1 (shut_bool Tryz.underlying4 true), ?_, rfl, hg.frame _, fun h => by cases h⟩
  exact (trodAll_cons_mk (Below.trod laidOut mrs_rec mrs_row h0 hg (fun _ h => by cases h)) (trodAll_cons_mk (shut_string Tryz.underlying9 w1) trodAll_mk0))
theorem row_noiseMarks : Rows.NoiseMarksSaid :=
  OpenClaim.holds_of_cond 6 Tryz.f6 rfl rfl rfl rfl rfl rfl rfl ⟨rfl, rfl, rfl, rfl, rfl⟩ rfl rfl rfl rfl rfl (by kernel_rfl) Tryz.func6 (by kernel_rfl)
    (of_decide_eq_true (by kernel_rfl)) (by unfold Func.isWrapper; first | (rw [if_pos (by decide +kernel)]; kernel_rfl) | (rw [if_neg (by decide +kernel)]; exact ⟨rfl, rfl⟩))
    (fun os started H enc _ F => by rw [OpenClaim.pre_eq_preRow]; exact lifted_noiseMarks os started H enc F)
theorem noiseMarks_holds : Rows.NoiseMarksCardSaid :=
  Claim7.holds_tied_plain_at .later [] _ _ _ _ row_noiseMarks (fun _ h => by cases h) (by kernel_rfl) (fun _ h => by cases h) noiseMarks_row_tie rfl ⟨rfl, rfl⟩ (by kernel_rfl) rfl
    (fun f fn hf hfn => by
      obtain rfl : f = 6 := Option.some.inj ((show Tryz.prog.funcNamed Rows.noiseMarksRow.func = some 6 by kernel_rfl).symm.trans hf) |>.symm
      obtain rfl : fn = Tryz.f6 := (Option.some.inj (Tryz.func6.symm.trans hfn)).symm
      exact ⟨by kernel_rfl, fun j t ht => by
        rw [Tryz.params6] at ht
        have hm : t ∈ [60, 9] := by simpa using Array.mem_of_getElem? ht
        have hall : ([60, 9].all fun u => !Tryz.prog.wantsStandIn u) = true := by kernel_rfl
        exact (show Tryz.prog.wantsStandIn t = false by simpa using List.all_eq_true.1 hall t hm)⟩)
    (by kernel_rfl)
#print axioms noiseMarks_holds
end Go.Proofs.YthghcjepdhkfdaaGreatDoor

