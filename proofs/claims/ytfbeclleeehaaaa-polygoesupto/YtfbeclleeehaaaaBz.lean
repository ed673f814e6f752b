/-
  Own text. Arrays of bytes as arguments.
-/
import Derived.Test.YtfbeclleeehaaaaBy
import Derived.ProofKit
import Derived.OpenShut
import Derived.Stop.Joined
namespace Go.Proofs.Ytfbeclleeehaaaa
open Go.ChangeShapes Go.WideShapes Go.ChangeAt Go.WideMaps Go.WideElems Go.RowKit Go.Proofs
theorem laidOut : laidOutB Try.prog = true := by kernel_rfl
/-- An argument that is an array of n bytes. -/
theorem open_row {H : Type} {enc : TypeId × Value → H} {W : World} {base : Nat} {sp : Nat → Bool} {v : Value} {d : DataW H} {p : List MemPlace} {t : TypeId} {n : Nat} (ht : Try.prog.underlying t = some (.array n 5)) (hc : Try.prog.cellsOf t = n) (hv : Value.okWide Try.prog W .any base t v)
    (h : DataW.Trod enc Try.prog W 0 sp true t v d p) : ∃ s, Byts n s ∧ v = .agg (WA .u8 n s) ∧ p = [] := by
  obtain ⟨cs, rfl, hsz, _⟩ : ∃ cs, v = .agg cs ∧ cs.size = Try.prog.cellsOf t ∧ Row.okWide Try.prog W .any base t cs := by
    simpa [Value.okWide, ht] using hv
  rw [hc] at hsz
  obtain ⟨fuel, hf⟩ := h
  obtain ⟨xs, m, _, hx, _, hl, hel⟩ := DataW.trod_array ht hf
  simp only [Prod.mk.injEq] at hx
  have key : ∀ i, i < n → ∃ k : Int, cs[i]? = some (.int .u8 k) ∧ (0 ≤ k ∧ k < 256) ∧ ∃ dd, xs[i]? = some (dd, []) := fun i hi => by
    have hi' := hel i hi
    rw [cells5] at hi'
    have hxs : i < xs.length := by omega
    rw [List.getElem?_eq_getElem hxs] at hi'
    obtain ⟨k, e1, e2, wk⟩ := DataW.trod_int Try.underlying5 hi'
    have hci : i < cs.size := by omega
    have e3 : (List.take 1 (List.drop (i * 1) (Value.agg cs).cells.toList)) = [cs[i]] := by
      rw [Nat.mul_one]
      show List.take 1 (List.drop i cs.toList) = _
      rw [List.drop_eq_getElem_cons (by simpa using hci)]
      simp
    rw [e3] at e1
    simp only [List.cons.injEq, and_true] at e1
    have := bounds_u8 wk
    refine ⟨k, by rw [Array.getElem?_eq_getElem hci, e1], by omega, ⟨_, by rw [List.getElem?_eq_getElem hxs, e2]⟩⟩
  have e := WA_ext (k := .u8) (s := fun i => match cs[i]? with | some (.int .u8 k) => k | _ => 0) hsz (fun i hi => by
    obtain ⟨k, e, _, _⟩ := key i hi
    simp only [e])
  refine ⟨_, fun i hi => ?_, congrArg Value.agg e, ?_⟩
  · obtain ⟨k, e, hk, _⟩ := key i hi
    simp only [e]
    exact hk
  rw [hx.2]
  apply List.flatMap_eq_nil_iff.2
  intro x hxm
  obtain ⟨i, hi, rfl⟩ := List.getElem_of_mem hxm
  obtain ⟨_, _, _, dd, e⟩ := key i (by omega)
  rw [List.getElem?_eq_getElem hi] at e
  rw [Option.some.inj e]
end Go.Proofs.Ytfbeclleeehaaaa
