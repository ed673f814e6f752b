/-
  Own text. The lift of RouteHalves's walk to its statement.
-/
import Derived.Test.YtcpnleanjclfjaaTL2
import Derived.Test.YtcpnleanjclfjaaRows
import Derived.ProofKit
import Derived.OpenShut
import Derived.SizedLaws
import Derived.Carry
namespace Go.Proofs.Ytcpnleanjclfjaa
open Go.ChangeShapes Go.WideShapes Go.ChangeAt Go.WideMaps Go.WideElems Go.ChangeMaps Go.RowKit Go.Proofs
set_option maxRecDepth 100000
def RouteHalvesWalk : Prop := ∀ (v0 : Value) (n0 : Nat) (X0 : Nat → Op10) (a1 : Int) (_ : (Lit.int .i64 a1).wf = true) (v2 : Value) (n2 : Nat) (X2 : Nat → Bool × (Nat → Int)) (W : World), OpsAt10 W v0 n0 X0 → n0 ≤ maxLen → AdsAt10 W v2 n2 X2 → n2 ≤ maxLen → Calls Try.prog 7 #[v0, .int .i64 a1, v2] W fun e w' => e = .returned (.bool true) ∧ Below W.heap.size W w'
theorem own_routeHalves : ownKnob Try.prog.godebug = none := by kernel_rfl
set_option maxRecDepth 100000 in
theorem lifted_routeHalves (hwalk : RouteHalvesWalk) (os : Os) (started : os.Started) (H : Type) (enc : TypeId × Value → H) :
    ReturnsInHanded {} Try.checked os 7 .any (Rows.routeHalvesSpec.pre6 enc Try.prog Try.f7 Rows.routeHalvesRow.domain false) (Rows.routeHalvesSpec.post enc Try.prog Try.f7 false true false false) := by
  refine returnsInHanded_of_change (C := Try.checked) own_routeHalves started (by kernel_rfl) Try.func7
    (ChangeSpec.witness6 (enc := enc) (C := Try.checked) false ⟨#[], #[.slice none 0 0, .int .i64 0, .slice none 0 0], []⟩ 8 (by kernel_rfl) (by kernel_rfl) (by kernel_rfl) (by kernel_rfl)) ?_
  intro W base args ds gs before hval0 hW _ _
  have hval : ∀ (j : Nat) t v, Try.f7.params[j]? = some t → args[j]? = some v → Value.okWide Try.prog W .any base t v := hval0
  have hW' := hW
  obtain ⟨p, q, hA0, hV, rfl, hfz, hnd⟩ := hW
  have hA : DataW.TrodAll enc Try.prog W 0 (fun _ => true) true Try.f7.params.toList args.toList ds p := hA0
  rw [Try.params7] at hA hval
  obtain ⟨v0, vs0, d0, ds0, p0, q0, hargs, rfl, rfl, h0, r0⟩ := trodAll_cons hA
  obtain ⟨v1, vs1, d1, ds1, p1, q1, rfl, rfl, rfl, h1, r1⟩ := trodAll_cons r0
  obtain ⟨v2, vs2, d2, ds2, p2, q2, rfl, rfl, rfl, h2, r2⟩ := trodAll_cons r1
  obtain ⟨rfl, rfl, rfl⟩ := trodAll_nil r2
  obtain rfl : args = #[v0, v1, v2] := by cases args; simp_all
  obtain ⟨rfl, rfl⟩ := trodVars_none hV
  obtain ⟨n0, X0, hS0, hm0⟩ := open_ops10 (hval 0 22 v0 rfl rfl) h0
  obtain ⟨a1, rfl, rfl, rfl, w1⟩ := open_int Try.underlying3 (hval 1 3 v1 rfl rfl) h1
  obtain ⟨n2, X2, hS2, hm2⟩ := open_ads10 (hval 2 51 v2 rfl rfl) h2
  clear hA0 hval0
  simp only [List.append_nil] at hW'
  refine (hwalk v0 n0 X0 a1 w1 v2 n2 X2 W hS0 hm0 hS2 hm2).mono fun e W' ⟨he, hg⟩ => ?_
  subst he
  refine ⟨_, rfl, _, _, _, [], (p0 ++ ([] ++ (p2 ++ []))), [], hW', trodAll_mk1 (shut_bool Try.underlying4 true), ?_, rfl, hg.frame _, fun h => by cases h⟩
  exact (trodAll_cons_mk (Below.trod laid10 (show Try.prog.readableRec 22 = true by kernel_rfl) (show 22 < Try.prog.types.size from of_decide_eq_true (by kernel_rfl)) h0 hg (fun x hx => by simpa using hW'.lt x (by simp [hx]))) (trodAll_cons_mk (shut_int Try.underlying3 w1) (trodAll_cons_mk (Below.trod laid10 (show Try.prog.readableRec 51 = true by kernel_rfl) (show 51 < Try.prog.types.size from of_decide_eq_true (by kernel_rfl)) h2 hg (fun x hx => by simpa using hW'.lt x (by simp [hx]))) trodAll_mk0)))
theorem routeHalves_said (hwalk : RouteHalvesWalk) : Rows.RouteHalvesSaid :=
  OpenClaim.holds_of_wide 7 Try.f7 rfl rfl rfl rfl rfl rfl rfl ⟨rfl, rfl, rfl, rfl, rfl⟩ rfl rfl rfl rfl rfl (by kernel_rfl) Try.func7 (by kernel_rfl)
    (of_decide_eq_true (by kernel_rfl)) (by unfold Func.isWrapper; first | (rw [if_pos (by decide +kernel)]; kernel_rfl) | (rw [if_neg (by decide +kernel)]; exact ⟨rfl, rfl⟩))
    (fun os started H enc _ => lifted_routeHalves hwalk os started H enc)
end Go.Proofs.Ytcpnleanjclfjaa
