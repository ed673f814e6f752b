/-
  Own text. The lift of PolyNobody's walk to its statement of the second form.
-/
import Derived.Test.YtfbeclleeehaaaaP8
import Derived.ProofKit
import Derived.OpenShut
import Derived.JoinedCond
import Derived.Carry
namespace Go.Proofs.Ytfbeclleeehaaaa
open Go.ChangeShapes Go.WideShapes Go.ChangeAt Go.WideMaps Go.WideElems Go.ChangeMaps Go.RowKit Go.Proofs
def PolyNobodyWalk : Prop := ∀ (v0 : Value) (n0 : Nat) (ts0 : Nat → ByteArray) (W : World), Strs W v0 n0 ts0 → CapOK v0 → n0 + (joinB ts0 n0).size ≤ 1048576 → Calls Try.prog 7 #[v0] W fun e w' => e = .returned (.bool true) ∧ Below W.heap.size W w'
theorem own_polyNobody : ownKnob Try.prog.godebug = none := by kernel_rfl
set_option maxRecDepth 100000 in
theorem lifted_polyNobody (hwalk : PolyNobodyWalk) (os : Os) (started : os.Started) (H : Type) (enc : TypeId × Value → H) (F : Stop.Interp) :
    ReturnsInHanded {} Try.checked os 7 .any ((Rows.OpenSpec.upto Rows.polyNobodySpec).pre6 enc Try.prog Try.f7 Rows.polyNobodyUptoRow.domain false) (((Rows.OpenSpec.upto Rows.polyNobodySpec).at F).post enc Try.prog Try.f7 false true false false) := by
  refine returnsInHanded_of_cond (C := Try.checked) (s := Rows.OpenSpec.upto Rows.polyNobodySpec) (k := Rows.uptoSmall) rfl own_polyNobody started (by kernel_rfl) Try.func7
    (OpenSpec.witness (enc := enc) (C := Try.checked) (s := Rows.OpenSpec.upto Rows.polyNobodySpec) (k := Rows.uptoSmall) rfl false ⟨#[], #[.slice none 0 0], []⟩ 8 (by kernel_rfl) (by kernel_rfl) (by kernel_rfl)
      (x := ([.nil], [], [])) (by kernel_rfl) rfl (by kernel_rfl)) ?_
  intro W base args ds gs before hval0 hW _ hk _
  have hval : ∀ (j : Nat) t v, Try.f7.params[j]? = some t → args[j]? = some v → Value.okWide Try.prog W .any base t v := hval0
  have hW' := hW
  obtain ⟨p, q, hA0, hV, rfl, hfz, hnd⟩ := hW
  have hA : DataW.TrodAll enc Try.prog W 0 (fun _ => true) true Try.f7.params.toList args.toList ds p := hA0
  rw [Try.params7] at hA hval
  obtain ⟨v0, vs0, d0, ds0, p0, q0, hargs, rfl, rfl, h0, r0⟩ := trodAll_cons hA
  obtain ⟨rfl, rfl, rfl⟩ := trodAll_nil r0
  obtain rfl : args = #[v0] := by cases args; simp_all
  obtain ⟨rfl, rfl⟩ := trodVars_none hV
  obtain ⟨n0, ts0, hS0, hc0, hb0⟩ := open_strs (hval 0 28 v0 rfl rfl) h0
  have hkb := small_le hk
  clear hA0 hval0
  simp only [List.append_nil] at hW' hkb
  refine (hwalk v0 n0 ts0 W hS0 hc0 (by simp only [Rows.uptoBulkAll] at hkb; omega)).mono fun e W' ⟨he, hg⟩ => ?_
  subst he
  refine ⟨_, rfl, _, _, _, [], (p0 ++ []), [], hW', trodAll_mk1 (shut_bool Try.underlying4 true), ?_, rfl, hg.frame _, fun h => by cases h⟩
  exact (trodAll_cons_mk (Below.trod laidOut strs_rec strs_row h0 hg (fun x hx => by simpa using hW'.lt x (by simpa using hx))) trodAll_mk0)
theorem polyNobody_upto (hwalk : PolyNobodyWalk) : Rows.PolyNobodyUptoSaid :=
  OpenClaim.holds_of_cond 7 Try.f7 rfl rfl rfl rfl rfl rfl rfl ⟨rfl, rfl, rfl, rfl, rfl⟩ rfl rfl rfl rfl rfl (by kernel_rfl) Try.func7 (by kernel_rfl)
    (of_decide_eq_true (by kernel_rfl)) (by unfold Func.isWrapper; first | (rw [if_pos (by decide +kernel)]; kernel_rfl) | (rw [if_neg (by decide +kernel)]; exact ⟨rfl, rfl⟩))
    (fun os started H enc _ F => lifted_polyNobody hwalk os started H enc F)
end Go.Proofs.Ytfbeclleeehaaaa
