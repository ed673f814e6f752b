/-
  Own text. A script of steps as an argument.
-/
import Derived.Test.YtbkbcfimpaolmaaSXT
namespace Go.Proofs.Ytbkbcfimpaolmaa
open Go.ChangeShapes Go.WideShapes Go.ChangeAt Go.WideMaps Go.WideElems Go.RowKit Go.Proofs
set_option maxRecDepth 100000
def stpV (x : Int × Int × Int × Bool) (j : Nat) : Value := if j < 1 then .int .i64 x.1 else if j < 2 then .int .i64 x.2.1 else if j < 3 then .int .i64 x.2.2.1 else .bool x.2.2.2
/-- A number that an int has. -/
def I9 (x : Int) : Prop := -9223372036854775808 ≤ x ∧ x ≤ 9223372036854775807
/-- A script: n steps. -/
def StepsAt (w : World) (v : Value) (n : Nat) (X : Nat → Int × Int × Int × Bool) : Prop := ∃ a cap, v = .slice a n cap ∧ ∀ j, j < n → (∃ ad : Addr, a = some ad ∧ ad.block < w.heap.size ∧ ∀ k, k < 4 → w.cell? (ad.add (4 * j + k)) = some (stpV (X j) k)) ∧ I9 (X j).1 ∧ I9 (X j).2.1 ∧ I9 (X j).2.2.1
theorem step9Fields : ∃ f0 f1 f2 f3 : Field, Try.prog.underlying 30 = some (.struct #[f0, f1, f2, f3]) ∧ f0.type = 3 ∧ f1.type = 3 ∧ f2.type = 3 ∧ f3.type = 4 ∧ f0.offset = 0 ∧ f1.offset = 1 ∧ f2.offset = 2 ∧ f3.offset = 3 := ⟨_, _, _, _, Try.underlying30, rfl, rfl, rfl, rfl, rfl, rfl, rfl, rfl⟩
section
variable {H : Type} {enc : TypeId × Value → H} {W : World} {base : Nat} {sp : Nat → Bool} {v : Value} {d : DataW H} {p : List MemPlace}
set_option maxHeartbeats 4000000 in
theorem open_steps9 (hv : Value.okWide Try.prog W .any base 22 v) (h : DataW.Trod enc Try.prog W 0 sp true 22 v d p) : ∃ n X, StepsAt W v n X ∧ n ≤ maxLen := by
  obtain ⟨a, len, cap, rfl⟩ := okWide_slice Try.underlying22 hv
  obtain ⟨fuel, hf⟩ := h
  rcases Go.Deep.open_slice Try.underlying22 hf with ⟨hcs, _⟩ | ⟨ad, len', cap', m, n, D, Pl, hcs, _, hl, hm, hz, hxd, hcell⟩
  · simp [Value.cells] at hcs
    obtain ⟨rfl, rfl, rfl⟩ := hcs
    exact ⟨0, fun _ => (0, 0, 0, false), ⟨none, 0, rfl, fun j h => by omega⟩, by unfold maxLen; omega⟩
  · simp [Value.cells] at hcs
    obtain ⟨rfl, rfl, rfl⟩ := hcs
    have hle : len ≤ m := by rw [hz]; split <;> omega
    have hc2 : Try.prog.cellsOf 30 = 4 := by kernel_rfl
    rw [hc2] at hcell
    have each : ∀ i, i < len → ∃ X : Int × Int × Int × Bool, (∀ k, k < 4 → W.cell? (ad.add (4 * i + k)) = some (stpV X k)) ∧ I9 X.1 ∧ I9 X.2.1 ∧ I9 X.2.2.1 := fun i hi => by
      obtain ⟨cs', h1, h2⟩ := hcell i (by omega)
      generalize D i = di at *
      obtain ⟨_, hlen, hc⟩ := World.cells?_some h1
      obtain ⟨f0, f1, f2, f3, hu, e0, e1, e2, e3, o0, o1, o2, o3⟩ := step9Fields
      obtain ⟨xs, n', _, hxx, _, hxl, hff⟩ := DataW.trod_struct hu h2
      obtain ⟨c0, c1, c2, c3, rfl⟩ : ∃ c0 c1 c2 c3, cs' = [c0, c1, c2, c3] := by
        match cs', hlen with
        | [c0, c1, c2, c3], _ => exact ⟨_, _, _, _, rfl⟩
      obtain ⟨y0, y1, y2, y3, rfl⟩ : ∃ y0 y1 y2 y3, xs = [y0, y1, y2, y3] := by
        match xs, hxl with
        | [c0, c1, c2, c3], _ => exact ⟨_, _, _, _, rfl⟩
      have g0 := hff 0 f0 rfl
      rw [e0, o0, show Try.prog.cellsOf 3 = 1 by kernel_rfl] at g0
      obtain ⟨z0, hz0, _, hb0⟩ := DataW.trod_int Try.underlying3 g0
      obtain rfl : c0 = _ := by simpa using hz0
      have g1 := hff 1 f1 rfl
      rw [e1, o1, show Try.prog.cellsOf 3 = 1 by kernel_rfl] at g1
      obtain ⟨z1, hz1, _, hb1⟩ := DataW.trod_int Try.underlying3 g1
      obtain rfl : c1 = _ := by simpa using hz1
      have g2 := hff 2 f2 rfl
      rw [e2, o2, show Try.prog.cellsOf 3 = 1 by kernel_rfl] at g2
      obtain ⟨z2, hz2, _, hb2⟩ := DataW.trod_int Try.underlying3 g2
      obtain rfl : c2 = _ := by simpa using hz2
      have g3 := hff 3 f3 rfl
      rw [e3, o3, show Try.prog.cellsOf 4 = 1 by kernel_rfl] at g3
      obtain ⟨z3, hz3, _⟩ := DataW.trod_bool Try.underlying4 g3
      obtain rfl : c3 = _ := by simpa using hz3
      refine ⟨(z0, z1, z2, z3), fun k hk => ?_, by have := bounds_i64 hb0; show I9 z0; unfold I9; omega, by have := bounds_i64 hb1; show I9 z1; unfold I9; omega, by have := bounds_i64 hb2; show I9 z2; unfold I9; omega⟩
      have := hc k (by simpa using hk)
      rw [Addr.add_add] at this
      rw [Nat.mul_comm 4 i, this]
      match k, hk with
      | 0, _ => rfl
      | 1, _ => rfl
      | 2, _ => rfl
      | 3, _ => rfl
    refine ⟨len, fun i => if h : i < len then (each i h).choose else (0, 0, 0, false), ⟨some ad, cap, rfl, fun j hj => ?_⟩, by omega⟩
    have h0 := (each j hj).choose_spec
    simp only [dif_pos hj]
    refine ⟨⟨ad, rfl, ?_, h0.1⟩, h0.2⟩
    have := World.block_lt_of_cell? _ _ (h0.1 0 (by omega))
    rwa [add_blk] at this
end
end Go.Proofs.Ytbkbcfimpaolmaa
