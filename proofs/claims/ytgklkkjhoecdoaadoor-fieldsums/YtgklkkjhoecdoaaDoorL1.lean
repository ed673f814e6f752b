/-
  Own text. 32 bytes as an argument are a number's; what the tied condition on the variable 'prime' gives.
-/
import Derived.Test.YtgklkkjhoecdoaaDoorG7
import Derived.Test.YtgklkkjhoecdoaaDoorRows
import Derived.Test.YtgklkkjhoecdoaaDoorTie
import Derived.Test.YtgklkkjhoecdoaaDoorCards
import Derived.ProofKit
import Derived.LaidMore
import Derived.OpenShut
import Derived.Stop.Joined
import Derived.SevenTiedAt
namespace Go.Proofs.YtgklkkjhoecdoaaDoor
open Go.ChangeShapes Go.WideShapes Go.ChangeAt Go.WideMaps Go.WideElems Go.RowKit Go.Proofs
/-- A list of digits to the base 256, the lowest first, as a number. -/
def digits : List Int → Int
  | [] => 0
  | x :: l => x + 256 * digits l
theorem digits_spec : ∀ (l : List Int), (∀ x ∈ l, Byte x) → 0 ≤ digits l ∧ digits l < 256 ^ l.length ∧ ∀ i, (h : i < l.length) → byt (digits l) i = l[i]
  | [], _ => ⟨by simp [digits], by simp [digits], fun i h => by simp at h⟩
  | x :: l, h => by
    have hx := h x (by simp)
    obtain ⟨h0, h1, h2⟩ := digits_spec l (fun y hy => h y (by simp [hy]))
    unfold Byte at hx
    refine ⟨by simp only [digits]; omega, by simp only [digits, List.length_cons, Int.pow_succ]; omega, fun i hi => ?_⟩
    cases i with
    | zero => simp only [digits, byt, Int.pow_zero, Int.ediv_one, List.getElem_cons_zero]; omega
    | succ i =>
      simp only [List.length_cons] at hi
      have := h2 i (by omega)
      simp only [List.getElem_cons_succ]
      rw [← this]
      simp only [digits, byt]
      rw [Int.pow_succ, Int.mul_comm (256 ^ i), ← Int.ediv_ediv_of_nonneg (by decide)]
      congr 2
      omega
theorem BA_of_bytes (cs : Array Value) (f : Nat → Int) (hs : cs.size = 32) (h : ∀ i, i < 32 → cs[i]? = some (.int .u8 (f i)) ∧ Byte (f i)) : ∃ n, N256 n ∧ cs = BA n := by
  obtain ⟨h0, h1, h2⟩ := digits_spec ((List.range 32).map f) (fun x hx => by
    obtain ⟨i, hi, rfl⟩ := List.mem_map.1 hx
    exact (h i (List.mem_range.1 hi)).2)
  refine ⟨digits ((List.range 32).map f), ⟨h0, by unfold W256; simpa using h1⟩, ?_⟩
  apply Array.ext_getElem?
  intro i
  by_cases hi : i < 32
  · rw [(h i hi).1, BA_get _ _ hi, h2 i (by simpa using hi)]
    simp
  · rw [Array.getElem?_eq_none (by omega), Array.getElem?_eq_none (by rw [BA_size]; omega)]
theorem cells24 : Tryd.prog.cellsOf 24 = 32 := by kernel_rfl
theorem bytes_wf {n : Int} (h : (Lit.int .u8 n).wf = true) : Byte n := by
  have := bounds_u8 h
  unfold Byte; omega
/-- An argument of 32 bytes is a number's. -/
theorem open_bytes {H : Type} {enc : TypeId × Value → H} {W : World} {base : Nat} {sp : Nat → Bool} {v : Value} {d : DataW H} {p : List MemPlace} (hv : Value.okWide Tryd.prog W .any base 24 v)
    (h : DataW.Trod enc Tryd.prog W 0 sp true 24 v d p) : ∃ n, N256 n ∧ v = .agg (BA n) ∧ p = [] := by
  obtain ⟨cs, rfl, hsz, _⟩ : ∃ cs, v = .agg cs ∧ cs.size = Tryd.prog.cellsOf 24 ∧ Row.okWide Tryd.prog W .any base 24 cs := by
    simpa [Value.okWide, Tryd.underlying24] using hv
  rw [cells24] at hsz
  obtain ⟨fuel, hf⟩ := h
  obtain ⟨xs, m, _, hx, _, hl, hel⟩ := DataW.trod_array Tryd.underlying24 hf
  simp only [Prod.mk.injEq] at hx
  have key : ∀ i, i < 32 → ∃ k : Int, cs[i]? = some (.int .u8 k) ∧ Byte k ∧ ∃ dd, xs[i]? = some (dd, []) := fun i hi => by
    have hi' := hel i hi
    rw [cells5] at hi'
    have hxs : i < xs.length := by omega
    rw [List.getElem?_eq_getElem hxs] at hi'
    obtain ⟨k, e1, e2, wk⟩ := DataW.trod_int Tryd.underlying5 hi'
    have hci : i < cs.size := by omega
    have e3 : (List.take 1 (List.drop (i * 1) (Value.agg cs).cells.toList)) = [cs[i]] := by
      rw [Nat.mul_one]
      show List.take 1 (List.drop i cs.toList) = _
      rw [List.drop_eq_getElem_cons (by simpa using hci)]
      simp
    rw [e3] at e1
    simp only [List.cons.injEq, and_true] at e1
    refine ⟨k, by rw [Array.getElem?_eq_getElem hci, e1], bytes_wf wk, ⟨_, by rw [List.getElem?_eq_getElem hxs, e2]⟩⟩
  obtain ⟨n, hn, rfl⟩ := BA_of_bytes cs (fun i => match cs[i]? with | some (.int .u8 k) => k | _ => 0) hsz (fun i hi => by
    obtain ⟨k, e, hk, _⟩ := key i hi
    simp only [e]
    exact ⟨trivial, hk⟩)
  refine ⟨n, hn, rfl, ?_⟩
  rw [hx.2]
  apply List.flatMap_eq_nil_iff.2
  intro x hxm
  obtain ⟨i, hi, rfl⟩ := List.getElem_of_mem hxm
  obtain ⟨_, _, _, dd, e⟩ := key i (by omega)
  rw [List.getElem?_eq_getElem hi] at e
  rw [Option.some.inj e]
theorem own : ownKnob Tryd.prog.godebug = none := by kernel_rfl
theorem laidOut : laidOutB Tryd.prog = true := by kernel_rfl
def laidP : List (String × DataW Unit) := Rows.fieldSumsRow.laid
/-- The variable's name, as the row lists it. -/
def primeName : String := (laidP.map (·.1)).headD "none"
theorem gPrime : Tryd.prog.globalNamed primeName = some 0 := by kernel_rfl
theorem tPrime : (Tryd.prog.globals[0]?).map (·.type) = some 38 := by kernel_rfl
theorem cells36 : Tryd.prog.cellsOf 36 = 1 := by kernel_rfl
theorem door_met (os : Os) (args : Array Value) : laidMetH Tryd.prog laidP ((World.doorLaid Tryd.prog 400 os).forCall (fun _ _ => 0) ⟨#[], args, []⟩).memory :=
  laidMetH_of_parts3 (fuel := 8) (laidMet_of_run' 8 (by kernel_rfl) (by kernel_rfl)) (by kernel_rfl) (by kernel_rfl)
/-- What the condition on 'prime' gives the walks. -/
theorem prime_of_laid {W : World} (h : laidMetH Tryd.prog laidP W) : PrimeAt W := by
  rw [MakeChecks.laidMetH_plain _ _ _ (by kernel_rfl)] at h
  obtain ⟨ps, ⟨g0, t0, cs0, f0, p0, q0, hg0, ht0, hv0, hd0, _, _⟩, _⟩ := h
  obtain rfl := Option.some.inj (gPrime.symm.trans hg0)
  obtain rfl := Option.some.inj (tPrime.symm.trans ht0)
  obtain ⟨xs, m1, rfl, hx1, hlen, hn4, hel⟩ := DataW.trod_array Tryd.underlying38 hd0
  simp only [Prod.mk.injEq, Rows.laid_adit_field_prime, DataW.agg.injEq] at hx1
  have key : ∀ i, i < 4 → ∀ k : Int, (xs.map (·.1))[i]? = some (.lit (.int .u64 k)) → W.cell? ⟨0, i, none⟩ = some (.int .u64 k) := fun i hi k hk => by
    have h0 := hel i hi
    rw [cells36, Nat.mul_one] at h0
    have hxi : i < xs.length := by omega
    rw [List.getElem?_eq_getElem hxi] at h0
    obtain ⟨k', e1, e2, _⟩ := DataW.trod_int Tryd.underlying36 h0
    have hk2 : k' = k := by
      rw [List.getElem?_map, List.getElem?_eq_getElem hxi, e2] at hk
      simpa using hk
    subst hk2
    have hc := World.var?_cell hg0 hv0 i
    rw [hc]
    have : cs0.toList[i]? = some (.int .u64 k') := by
      have h2 := congrArg (fun l => l[0]?) e1
      simpa [List.getElem?_take, List.getElem?_drop] using h2
    simpa using this
  rw [← hx1.1] at key
  exact ⟨key 0 (by omega) _ rfl, key 1 (by omega) _ rfl, key 2 (by omega) _ rfl, key 3 (by omega) _ rfl⟩
end Go.Proofs.YtgklkkjhoecdoaaDoor
