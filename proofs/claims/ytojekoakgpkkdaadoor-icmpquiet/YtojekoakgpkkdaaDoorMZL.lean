/-
  Own text. What is lost (a packet and an MTU) as an argument.
-/
import Derived.Test.YtojekoakgpkkdaaDoorJ10
import Derived.Test.YtojekoakgpkkdaaDoorMO
namespace Go.Proofs.YtojekoakgpkkdaaDoor
open Go.ChangeShapes Go.WideShapes Go.ChangeAt Go.WideMaps Go.WideElems Go.RowKit Go.Proofs
set_option maxRecDepth 100000
theorem loF : ∃ f0 f1 : Field, Tryd.prog.underlying 45 = some (.struct #[f0, f1]) ∧ f0.type = 39 ∧ f1.type = 3 ∧ f0.offset = 0 ∧ f1.offset = 46 := ⟨_, _, Tryd.underlying45, rfl, rfl, rfl, rfl⟩
theorem cLo : Tryd.prog.cellsOf 45 = 47 := by kernel_rfl
section
variable {H : Type} {enc : TypeId × Value → H} {W : World} {base : Nat} {sp : Nat → Bool} {v : Value} {d : DataW H} {p : List MemPlace}
/-- An argument that is a packet and an MTU. -/
theorem open_lo (hv : Value.okWide Tryd.prog W .any base 45 v) (h : DataW.Trod enc Tryd.prog W 0 sp true 45 v d p) : ∃ P vs n, PkOk P ∧ v = .agg (SC 47 (loV P vs n)) ∧ ExAt W vs P.exts ∧ ((∀ n ∈ d.weights Tryd.prog 45, n ≤ reachBytes) → PkIn P) := by
  obtain ⟨cs, rfl, hsz, _⟩ : ∃ cs, v = .agg cs ∧ cs.size = Tryd.prog.cellsOf 45 ∧ Row.okWide Tryd.prog W .any base 45 cs := by
    simpa [Value.okWide, Tryd.underlying45] using hv
  obtain ⟨fuel, hf⟩ := h
  obtain ⟨f0, f1, hu, e0, e1, o0, o1⟩ := loF
  obtain ⟨y0, y1, n', hx, hl, h0, h1⟩ := trod_struct2 hu hf
  rw [e0, o0, cPk] at h0
  rw [e1, o1, cIn] at h1
  obtain ⟨P, vs, hO, hP, hE, hw⟩ := trod_pk h0
  obtain ⟨n, hn, _, _⟩ := DataW.trod_int Tryd.underlying3 h1
  rw [cLo] at hsz
  refine ⟨P, vs, n, hO, congrArg Value.agg (Array.toList_inj.1 (sc_list (by simpa using hsz) (fun i hi => ?_))), hE, fun hW => hw (fun k hk => ?_)⟩
  · unfold loV
    by_cases hi2 : i < 46
    · rw [if_pos hi2]
      have := hP i hi2
      rw [tkN hi2, Nat.zero_add] at this
      exact this
    · obtain rfl : i = 46 := by omega
      rw [if_neg hi2]
      exact tk1 hn
  · refine hW k ?_
    have hd : d = .agg [y0.1, y1.1] := congrArg Prod.fst hx
    rw [hd]
    unfold DataW.weights
    rw [hu]
    exact DataW.weights_mem_each (j := 0) (t := 39) (by rw [← e0]; rfl) rfl k hk
end
end Go.Proofs.YtojekoakgpkkdaaDoor
