/-
  Own text. A script of calls as an argument.
-/
import Derived.Test.YtbkbcfimpaolmaaGreatSDP
import Derived.Test.YtbkbcfimpaolmaaGreatRows
import Derived.ChangeSlices
import Derived.Deep.Slices
import Derived.ChangeSame
import Derived.OpenShut
import Derived.SizedLaws
import Derived.ProofKit
namespace Go.Proofs.YtbkbcfimpaolmaaGreat
open Go.ChangeShapes Go.WideShapes Go.ChangeAt Go.WideMaps Go.WideElems Go.RowKit Go.Proofs
set_option maxRecDepth 100000
theorem laid9 : laidOutB Tryz.prog = true := by kernel_rfl
theorem wAll_mem {H : Type} {P : Program} {e : TypeId} : ∀ {l : List (DataW H)} {d : DataW H}, d ∈ l → ∀ n ∈ d.weights P e, n ∈ DataW.weightsAll P e l
  | a :: r, d, hd, n, hn => by
    simp only [DataW.weightsAll, List.mem_append]
    rcases List.mem_cons.1 hd with rfl | h
    · exact .inl hn
    · exact .inr (wAll_mem h n hn)
theorem op9Fields : ∃ f0 f1 f2 f3 f4 f5 f6 : Field, Tryz.prog.underlying 39 = some (.struct #[f0, f1, f2, f3, f4, f5, f6]) ∧ f0.type = 3 ∧ f1.type = 3 ∧ f2.type = 3 ∧ f3.type = 31 ∧ f4.type = 4 ∧ f5.type = 4 ∧ f6.type = 9 ∧ f0.offset = 0 ∧ f1.offset = 1 ∧ f2.offset = 2 ∧ f3.offset = 3 ∧ f4.offset = 4 ∧ f5.offset = 5 ∧ f6.offset = 6 := ⟨_, _, _, _, _, _, _, Tryz.underlying39, rfl, rfl, rfl, rfl, rfl, rfl, rfl, rfl, rfl, rfl, rfl, rfl, rfl, rfl⟩

section
variable {H : Type} {enc : TypeId × Value → H} {W : World} {base : Nat} {sp : Nat → Bool} {v : Value} {d : DataW H} {p : List MemPlace}
set_option maxHeartbeats 4000000 in
theorem open_ops9 (hv : Value.okWide Tryz.prog W .any base 22 v) (h : DataW.Trod enc Tryz.prog W 0 sp true 22 v d p) (hsz : ∀ x ∈ d.weights Tryz.prog 22, x ≤ reachBytes) : ∃ n X, OpsAt9 W v n X ∧ n ≤ maxLen := by
  obtain ⟨a, len, cap, rfl⟩ := okWide_slice Tryz.underlying22 hv
  obtain ⟨fuel, hf⟩ := h
  rcases Go.Deep.open_slice Tryz.underlying22 hf with ⟨hcs, _⟩ | ⟨ad, len', cap', m, n, D, Pl, hcs, _, hl, hm, hz, hxd, hcell⟩
  · simp [Value.cells] at hcs
    obtain ⟨rfl, rfl, rfl⟩ := hcs
    exact ⟨0, fun _ => ⟨0, 0, 0, 0, false, false, ByteArray.empty⟩, ⟨none, 0, rfl, fun j h => by omega⟩, by unfold maxLen; omega⟩
  · simp [Value.cells] at hcs
    obtain ⟨rfl, rfl, rfl⟩ := hcs
    have hle : len ≤ m := by rw [hz]; split <;> omega
    have hc2 : Tryz.prog.cellsOf 39 = 7 := by kernel_rfl
    rw [hc2] at hcell
    obtain ⟨rfl, _⟩ := Prod.mk.inj hxd
    have hall : ∀ i, i < len → ∀ x ∈ (D i).weights Tryz.prog 39, x ≤ reachBytes := fun i hi x hx => hsz x (by
      simp only [DataW.weights, Tryz.underlying22, List.mem_cons, List.mem_append]
      exact .inr (.inl (wAll_mem (List.mem_map.2 ⟨i, List.mem_range.2 hi, rfl⟩) x hx)))
    have each : ∀ i, i < len → ∃ X : Op9, (∀ k, k < 7 → W.cell? (ad.add (7 * i + k)) = some (opV X k)) ∧ U64 X.ctr ∧ X.text.size ≤ 140737488351232 := fun i hi => by
      obtain ⟨cs', h1, h2⟩ := hcell i (by omega)
      have hw := hall i hi
      generalize D i = di at *
      obtain ⟨_, hlen, hc⟩ := World.cells?_some h1
      obtain ⟨f0, f1, f2, f3, f4, f5, f6, hu, e0, e1, e2, e3, e4, e5, e6, o0, o1, o2, o3, o4, o5, o6⟩ := op9Fields
      obtain ⟨xs, n', _, hxx, _, hxl, hff⟩ := DataW.trod_struct hu h2
      obtain ⟨c0, c1, c2, c3, c4, c5, c6, rfl⟩ : ∃ c0 c1 c2 c3 c4 c5 c6, cs' = [c0, c1, c2, c3, c4, c5, c6] := by
        match cs', hlen with
        | [c0, c1, c2, c3, c4, c5, c6], _ => exact ⟨_, _, _, _, _, _, _, rfl⟩
      obtain ⟨y0, y1, y2, y3, y4, y5, y6, rfl⟩ : ∃ y0 y1 y2 y3 y4 y5 y6, xs = [y0, y1, y2, y3, y4, y5, y6] := by
        match xs, hxl with
        | [c0, c1, c2, c3, c4, c5, c6], _ => exact ⟨_, _, _, _, _, _, _, rfl⟩
      obtain ⟨rfl, _⟩ := Prod.mk.inj hxx
      have g0 := hff 0 f0 rfl
      rw [e0, o0, show Tryz.prog.cellsOf 3 = 1 by kernel_rfl] at g0
      obtain ⟨z0, hz0, _, hb0⟩ := DataW.trod_int Tryz.underlying3 g0
      obtain rfl : c0 = _ := by simpa using hz0
      clear hz0
      have g1 := hff 1 f1 rfl
      rw [e1, o1, show Tryz.prog.cellsOf 3 = 1 by kernel_rfl] at g1
      obtain ⟨z1, hz1, _, hb1⟩ := DataW.trod_int Tryz.underlying3 g1
      obtain rfl : c1 = _ := by simpa using hz1
      clear hz1
      have g2 := hff 2 f2 rfl
      rw [e2, o2, show Tryz.prog.cellsOf 3 = 1 by kernel_rfl] at g2
      obtain ⟨z2, hz2, _, hb2⟩ := DataW.trod_int Tryz.underlying3 g2
      obtain rfl : c2 = _ := by simpa using hz2
      clear hz2
      have g3 := hff 3 f3 rfl
      rw [e3, o3, show Tryz.prog.cellsOf 31 = 1 by kernel_rfl] at g3
      obtain ⟨z3, hz3, _, hb3⟩ := DataW.trod_int Tryz.underlying31 g3
      obtain rfl : c3 = _ := by simpa using hz3
      clear hz3
      have g4 := hff 4 f4 rfl
      rw [e4, o4, show Tryz.prog.cellsOf 4 = 1 by kernel_rfl] at g4
      obtain ⟨z4, hz4, _⟩ := DataW.trod_bool Tryz.underlying4 g4
      obtain rfl : c4 = _ := by simpa using hz4
      clear hz4
      have g5 := hff 5 f5 rfl
      rw [e5, o5, show Tryz.prog.cellsOf 4 = 1 by kernel_rfl] at g5
      obtain ⟨z5, hz5, _⟩ := DataW.trod_bool Tryz.underlying4 g5
      obtain rfl : c5 = _ := by simpa using hz5
      clear hz5
      have g6 := hff 6 f6 rfl
      rw [e6, o6, show Tryz.prog.cellsOf 9 = 1 by kernel_rfl] at g6
      obtain ⟨z6, hz6, hx6, _⟩ := DataW.trod_string Tryz.underlying9 g6
      obtain rfl : c6 = _ := by simpa using hz6
      clear hz6
      have h6ok : z6.size ≤ 140737488351232 := by
        have hm6 : z6.data.toList.length ∈ (DataW.agg [y0.1, y1.1, y2.1, y3.1, y4.1, y5.1, y6.1]).weights Tryz.prog 39 := by
          simp only [DataW.weights, hu]
          refine DataW.weights_mem_each (j := 6) (t := 9) (d := y6.1) (by simp [e6]) rfl _ ?_
          rw [hx6]
          simp [DataW.weights]
        have := hw _ hm6
        have hr : reachBytes = 140737488351232 := rfl
        rw [hr, Array.length_toList] at this
        exact this
      refine ⟨⟨z0, z1, z2, z3, z4, z5, z6⟩, fun k hk => ?_, by have := bounds_u64 hb3; show U64 z3; unfold U64; omega, ?_⟩
      rotate_left
      · show z6.size ≤ _
        exact h6ok
      · have := hc k (by simpa using hk)
        rw [Addr.add_add] at this
        rw [Nat.mul_comm 7 i, this]
        match k, hk with
        | 0, _ => rfl
        | 1, _ => rfl
        | 2, _ => rfl
        | 3, _ => rfl
        | 4, _ => rfl
        | 5, _ => rfl
        | 6, _ => rfl
    refine ⟨len, fun i => if h : i < len then (each i h).choose else ⟨0, 0, 0, 0, false, false, ByteArray.empty⟩, ⟨some ad, cap, rfl, fun j hj => ?_⟩, by omega⟩
    have h0 := (each j hj).choose_spec
    simp only [dif_pos hj]
    refine ⟨⟨ad, rfl, ?_, h0.1⟩, h0.2.1, h0.2.2⟩
    have := World.block_lt_of_cell? _ _ (h0.1 0 (by omega))
    rwa [add_blk] at this
end
end Go.Proofs.YtbkbcfimpaolmaaGreat
