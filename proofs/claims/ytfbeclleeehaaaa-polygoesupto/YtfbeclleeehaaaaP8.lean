/-
  Own text. A slice of texts as an argument, and what the bound on its bulk gives.
-/
import Derived.Test.YtfbeclleeehaaaaP7
import Derived.Test.YtfbeclleeehaaaaRows
import Derived.SliceStrings
namespace Go.Proofs.Ytfbeclleeehaaaa
open Go.ChangeShapes Go.WideShapes Go.ChangeAt Go.WideMaps Go.WideElems Go.RowKit Go.Proofs Go.Lib
theorem bulk_cat {H : Type} (l r : List (DataW H)) : Rows.uptoBulkAll (l ++ r) = Rows.uptoBulkAll l + Rows.uptoBulkAll r := by
  induction l with
  | nil => simp [Rows.uptoBulkAll]
  | cons x l ih => simp only [List.cons_append, Rows.uptoBulkAll, ih]; omega
theorem bulk_strs {H : Type} (ss : List ByteArray) : ∀ n, n ≤ ss.length → Rows.uptoBulkAll (strs (H := H) (ss.take n)) = n + (joinB (fun i => ss.getD i ByteArray.empty) n).size
  | 0, _ => by simp [strs, Rows.uptoBulkAll, joinB]
  | n + 1, h => by
    have ih := bulk_strs (H := H) ss n (by omega)
    have hn : n < ss.length := by omega
    have e : ss.take (n + 1) = ss.take n ++ [ss.getD n ByteArray.empty] := by
      rw [List.take_succ_eq_append_getElem hn]
      simp [List.getD, hn]
    have hb : Rows.uptoBulkAll (strs (H := H) [ss.getD n ByteArray.empty]) = (ss.getD n ByteArray.empty).size + 1 := by
      simp only [strs, List.map_cons, List.map_nil, Rows.uptoBulkAll, Rows.uptoBulk, Array.length_toList]
      rfl
    have hs : strs (H := H) (ss.take n ++ [ss.getD n ByteArray.empty]) = strs (ss.take n) ++ strs [ss.getD n ByteArray.empty] := by simp [strs]
    rw [e, hs, bulk_cat, ih, hb, joinB, ByteArray.size_append]
    omega
theorem cellsStr : Try.prog.cellsOf 9 = 1 := by kernel_rfl
/-- A slice that is no longer than its array. -/
def CapOK (v : Value) : Prop := ∀ a m c, v = .slice a m c → m ≤ c
/-- An argument that is a slice of texts. -/
theorem open_strs {H : Type} {enc : TypeId × Value → H} {W : World} {base : Nat} {sp : Nat → Bool} {v : Value} {d : DataW H} {p : List MemPlace} (hv : Value.okWide Try.prog W .any base 28 v)
    (h : DataW.Trod enc Try.prog W 0 sp true 28 v d p) : ∃ n ts, Strs W v n ts ∧ CapOK v ∧ n + (joinB ts n).size ≤ Rows.uptoBulk d := by
  obtain ⟨a, len, cap, rfl⟩ := okWide_slice Try.underlying28 hv
  obtain ⟨fuel, hf⟩ := h
  rcases open_strings Try.underlying28 Try.underlying9 cellsStr hf with ⟨hcs, hx⟩ | ⟨ad, len', cap', ss, hcs, _, hl, hm, hz, hx, hcell, hsz⟩
  · simp [Value.cells] at hcs
    obtain ⟨rfl, rfl, rfl⟩ := hcs
    exact ⟨0, fun _ => ByteArray.empty, ⟨none, 0, rfl, fun h => by omega⟩, fun a m c e => by simp at e; omega, by simp [joinB]⟩
  · simp [Value.cells] at hcs
    obtain ⟨rfl, rfl, rfl⟩ := hcs
    have hle : len ≤ ss.length := by rw [hz]; split <;> omega
    simp only [Prod.mk.injEq] at hx
    refine ⟨len, fun i => ss.getD i ByteArray.empty, ⟨some ad, cap, rfl, fun _ => ⟨ad, rfl, fun j hj => hcell j (by omega)⟩⟩, fun a m c e => by simp at e; omega, ?_⟩
    rw [hx.1]
    simp only [Rows.uptoBulk]
    rw [bulk_strs ss len hle]
    omega
theorem small_le {H : Type} {l : List (DataW H)} (hk : Rows.uptoSmall H l = true) : Rows.uptoBulkAll l ≤ 1048576 := of_decide_eq_true hk
theorem strs_rec : Try.prog.readableRec 28 = true := by kernel_rfl
theorem strs_row : 28 < Try.prog.types.size := of_decide_eq_true (by kernel_rfl)
theorem arr32_rec : Try.prog.readableRec 22 = true := by kernel_rfl
theorem arr32_row : 22 < Try.prog.types.size := of_decide_eq_true (by kernel_rfl)
theorem cells32 : Try.prog.cellsOf 22 = 32 := by kernel_rfl
end Go.Proofs.Ytfbeclleeehaaaa
