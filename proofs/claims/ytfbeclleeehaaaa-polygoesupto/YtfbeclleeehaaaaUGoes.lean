/-
  Own text. The lift of PolyGoes's walk to its statement of the second form.
-/
import Derived.Test.YtfbeclleeehaaaaP8
import Derived.ProofKit
import Derived.OpenShut
import Derived.JoinedCond
import Derived.Carry
namespace Go.Proofs.Ytfbeclleeehaaaa
open Go.ChangeShapes Go.WideShapes Go.ChangeAt Go.WideMaps Go.WideElems Go.ChangeMaps Go.RowKit Go.Proofs
def PolyGoesWalk : Prop := ∀ (s0 : Nat → Int) (_ : Byts 32 s0) (s1 : Nat → Int) (_ : Byts 32 s1) (v2 : Value) (n2 : Nat) (ts2 : Nat → ByteArray) (W : World), Strs W v2 n2 ts2 → CapOK v2 → n2 + (joinB ts2 n2).size ≤ 1048576 → Calls Try.prog 5 #[.agg (WA .u8 32 s0), .agg (WA .u8 32 s1), v2] W fun e w' => e = .returned (.bool true) ∧ Below W.heap.size W w'
theorem own_polyGoes : ownKnob Try.prog.godebug = none := by kernel_rfl
set_option maxRecDepth 100000 in
theorem lifted_polyGoes (hwalk : PolyGoesWalk) (os : Os) (started : os.Started) (H : Type) (enc : TypeId × Value → H) (F : Stop.Interp) :
    ReturnsInHanded {} Try.checked os 5 .any ((Rows.OpenSpec.upto Rows.polyGoesSpec).pre6 enc Try.prog Try.f5 Rows.polyGoesUptoRow.domain false) (((Rows.OpenSpec.upto Rows.polyGoesSpec).at F).post enc Try.prog Try.f5 false true false false) := by
  refine returnsInHanded_of_cond (C := Try.checked) (s := Rows.OpenSpec.upto Rows.polyGoesSpec) (k := Rows.uptoSmall) rfl own_polyGoes started (by kernel_rfl) Try.func5
    (OpenSpec.witness (enc := enc) (C := Try.checked) (s := Rows.OpenSpec.upto Rows.polyGoesSpec) (k := Rows.uptoSmall) rfl false ⟨#[], #[.agg (WA .u8 32 fun _ => 0), .agg (WA .u8 32 fun _ => 0), .slice none 0 0], []⟩ 8 (by kernel_rfl) (by kernel_rfl) (by kernel_rfl)
      (x := ([.agg ((List.range 32).map fun _ => .lit (.int .u8 0)), .agg ((List.range 32).map fun _ => .lit (.int .u8 0)), .nil], [], [])) (by kernel_rfl) rfl (by kernel_rfl)) ?_
  intro W base args ds gs before hval0 hW _ hk _
  have hval : ∀ (j : Nat) t v, Try.f5.params[j]? = some t → args[j]? = some v → Value.okWide Try.prog W .any base t v := hval0
  have hW' := hW
  obtain ⟨p, q, hA0, hV, rfl, hfz, hnd⟩ := hW
  have hA : DataW.TrodAll enc Try.prog W 0 (fun _ => true) true Try.f5.params.toList args.toList ds p := hA0
  rw [Try.params5] at hA hval
  obtain ⟨v0, vs0, d0, ds0, p0, q0, hargs, rfl, rfl, h0, r0⟩ := trodAll_cons hA
  obtain ⟨v1, vs1, d1, ds1, p1, q1, rfl, rfl, rfl, h1, r1⟩ := trodAll_cons r0
  obtain ⟨v2, vs2, d2, ds2, p2, q2, rfl, rfl, rfl, h2, r2⟩ := trodAll_cons r1
  obtain ⟨rfl, rfl, rfl⟩ := trodAll_nil r2
  obtain rfl : args = #[v0, v1, v2] := by cases args; simp_all
  obtain ⟨rfl, rfl⟩ := trodVars_none hV
  obtain ⟨s0, w0, rfl, rfl⟩ := open_row (t := 22) Try.underlying22 cells32 (hval 0 22 v0 rfl rfl) h0
  obtain ⟨s1, w1, rfl, rfl⟩ := open_row (t := 22) Try.underlying22 cells32 (hval 1 22 v1 rfl rfl) h1
  obtain ⟨n2, ts2, hS2, hc2, hb2⟩ := open_strs (hval 2 28 v2 rfl rfl) h2
  have hkb := small_le hk
  clear hA0 hval0
  simp only [List.append_nil, List.nil_append] at hW' hkb
  refine (hwalk s0 w0 s1 w1 v2 n2 ts2 W hS2 hc2 (by simp only [Rows.uptoBulkAll] at hkb; omega)).mono fun e W' ⟨he, hg⟩ => ?_
  subst he
  refine ⟨_, rfl, _, _, _, [], ([] ++ ([] ++ (p2 ++ []))), [], hW', trodAll_mk1 (shut_bool Try.underlying4 true), ?_, rfl, hg.frame _, fun h => by cases h⟩
  exact (trodAll_cons_mk (Below.trod laidOut arr32_rec arr32_row h0 hg (fun _ h => by cases h)) (trodAll_cons_mk (Below.trod laidOut arr32_rec arr32_row h1 hg (fun _ h => by cases h)) (trodAll_cons_mk (Below.trod laidOut strs_rec strs_row h2 hg (fun x hx => by simpa using hW'.lt x (by simpa using hx))) trodAll_mk0)))
theorem polyGoes_upto (hwalk : PolyGoesWalk) : Rows.PolyGoesUptoSaid :=
  OpenClaim.holds_of_cond 5 Try.f5 rfl rfl rfl rfl rfl rfl rfl ⟨rfl, rfl, rfl, rfl, rfl⟩ rfl rfl rfl rfl rfl (by kernel_rfl) Try.func5 (by kernel_rfl)
    (of_decide_eq_true (by kernel_rfl)) (by unfold Func.isWrapper; first | (rw [if_pos (by decide +kernel)]; kernel_rfl) | (rw [if_neg (by decide +kernel)]; exact ⟨rfl, rfl⟩))
    (fun os started H enc _ F => lifted_polyGoes hwalk os started H enc F)
end Go.Proofs.Ytfbeclleeehaaaa
