/-
  Own text. Slices of calls and of addresses as arguments.
-/
import Derived.Test.YtcpnleanjclfjaaJ7
namespace Go.Proofs.Ytcpnleanjclfjaa
open Go.ChangeShapes Go.WideShapes Go.ChangeAt Go.WideMaps Go.WideElems Go.RowKit Go.Proofs
set_option maxRecDepth 100000
structure Op10 where
  kd : Int
  ow : Int
  v : Bool
  b : Nat → Int
  n : Int
def opV10 (x : Op10) (j : Nat) : Value := if j < 1 then .int .i64 x.kd else if j < 2 then .int .i64 x.ow else prV x.v x.b x.n (j - 2)
theorem opV10_one (x : Op10) (j : Nat) : (opV10 x j).oneCell' = true := by
  unfold opV10
  split
  · rfl
  · split
    · rfl
    · exact prV_one _ _ _ _
/-- A script: n calls. -/
def OpsAt10 (w : World) (v : Value) (n : Nat) (X : Nat → Op10) : Prop := ∃ a cap, v = .slice a n cap ∧ ∀ j, j < n → (∃ ad : Addr, a = some ad ∧ ad.block < w.heap.size ∧ ∀ k, k < 20 → w.cell? (ad.add (20 * j + k)) = some (opV10 (X j) k)) ∧ Byts 16 (X j).b ∧ (Lit.int .i64 (X j).n).wf = true
/-- n addresses. -/
def AdsAt10 (w : World) (v : Value) (n : Nat) (X : Nat → Bool × (Nat → Int)) : Prop := ∃ a cap, v = .slice a n cap ∧ ∀ j, j < n → (∃ ad : Addr, a = some ad ∧ ad.block < w.heap.size ∧ ∀ k, k < 17 → w.cell? (ad.add (17 * j + k)) = some (adV (X j).1 (X j).2 k)) ∧ Byts 16 (X j).2
section
variable {H : Type} {enc : TypeId × Value → H} {W : World} {base : Nat} {sp : Nat → Bool} {v : Value} {d : DataW H} {p : List MemPlace}
set_option maxHeartbeats 4000000 in
theorem open_ops10 (hv : Value.okWide Try.prog W .any base 22 v) (h : DataW.Trod enc Try.prog W 0 sp true 22 v d p) : ∃ n X, OpsAt10 W v n X ∧ n ≤ maxLen := by
  obtain ⟨a, len, cap, rfl⟩ := okWide_slice Try.underlying22 hv
  obtain ⟨fuel, hf⟩ := h
  rcases Go.Deep.open_slice Try.underlying22 hf with ⟨hcs, _⟩ | ⟨ad, len', cap', m, n, D, Pl, hcs, _, hl, hm, hz, _, hcell⟩
  · simp [Value.cells] at hcs
    obtain ⟨rfl, rfl, rfl⟩ := hcs
    exact ⟨0, fun _ => ⟨0, 0, false, fun _ => 0, 0⟩, ⟨none, 0, rfl, fun j h => by omega⟩, by unfold maxLen; omega⟩
  · simp [Value.cells] at hcs
    obtain ⟨rfl, rfl, rfl⟩ := hcs
    have hle : len ≤ m := by rw [hz]; split <;> omega
    have hc2 : Try.prog.cellsOf 39 = 20 := by kernel_rfl
    rw [hc2] at hcell
    have each : ∀ i, i < len → ∃ X, (∀ k, k < 20 → W.cell? (ad.add (20 * i + k)) = some (opV10 X k)) ∧ Byts 16 (X : Op10).b ∧ (Lit.int .i64 X.n).wf = true := fun i hi => by
      obtain ⟨cs', h1, h2⟩ := hcell i (by omega)
      obtain ⟨_, hlen, hc⟩ := World.cells?_some h1
      obtain ⟨f0, f1, f2, hu, e0, e1, e2, o0, o1, o2⟩ := opF
      obtain ⟨xs, n', _, hxx, _, hxl, hff⟩ := DataW.trod_struct hu h2
      have hxl3 : xs.length = 3 := hxl
      have g0 := hff 0 f0 rfl
      have g1 := hff 1 f1 rfl
      have g2 := hff 2 f2 rfl
      rw [e0, o0, cIn] at g0
      rw [e1, o1, cIn] at g1
      rw [e2, o2, cPx] at g2
      rw [List.getElem?_eq_getElem (by omega)] at g0 g1 g2
      obtain ⟨K, hk, _, _⟩ := DataW.trod_int Try.underlying3 g0
      obtain ⟨O, ho, _, hwo⟩ := DataW.trod_int Try.underlying3 g1
      obtain ⟨pv, pb, pn, hpb, hpn, _, hpc, _⟩ := trod_px g2
      have hbb : Byts 16 (Op10.mk K O pv pb pn).b ∧ (Lit.int .i64 (Op10.mk K O pv pb pn).n).wf = true := ⟨hpb, hpn⟩
      have hcs : ∀ k, k < 20 → cs'[k]? = some (opV10 ⟨K, O, pv, pb, pn⟩ k) := fun k hk' => by
        unfold opV10
        by_cases c0 : k < 1
        · obtain rfl : k = 0 := by omega
          exact tk1 hk
        · rw [if_neg c0]
          by_cases c1 : k < 2
          · obtain rfl : k = 1 := by omega
            exact tk1 ho
          · rw [if_neg c1]
            have := hpc (k - 2) (by omega)
            rw [tkN (by omega), show 2 + (k - 2) = k by omega] at this
            exact this
      refine ⟨_, fun k hk => ?_, hbb⟩
      have := hc k (by omega)
      rw [Addr.add_add] at this
      rw [Nat.mul_comm 20 i, this]
      exact hcs k hk
    refine ⟨len, fun i => if h : i < len then (each i h).choose else ⟨0, 0, false, fun _ => 0, 0⟩, ⟨some ad, cap, rfl, fun j hj => ?_⟩, by omega⟩
    have h0 := (each j hj).choose_spec
    simp only [dif_pos hj]
    refine ⟨⟨ad, rfl, ?_, h0.1⟩, h0.2⟩
    have := World.block_lt_of_cell? _ _ (h0.1 0 (by omega))
    rwa [add_blk] at this

set_option maxHeartbeats 4000000 in
theorem open_ads10 (hv : Value.okWide Try.prog W .any base 51 v) (h : DataW.Trod enc Try.prog W 0 sp true 51 v d p) : ∃ n X, AdsAt10 W v n X ∧ n ≤ maxLen := by
  obtain ⟨a, len, cap, rfl⟩ := okWide_slice Try.underlying51 hv
  obtain ⟨fuel, hf⟩ := h
  rcases Go.Deep.open_slice Try.underlying51 hf with ⟨hcs, _⟩ | ⟨ad, len', cap', m, n, D, Pl, hcs, _, hl, hm, hz, _, hcell⟩
  · simp [Value.cells] at hcs
    obtain ⟨rfl, rfl, rfl⟩ := hcs
    exact ⟨0, fun _ => (false, fun _ => 0), ⟨none, 0, rfl, fun j h => by omega⟩, by unfold maxLen; omega⟩
  · simp [Value.cells] at hcs
    obtain ⟨rfl, rfl, rfl⟩ := hcs
    have hle : len ≤ m := by rw [hz]; split <;> omega
    have hc2 : Try.prog.cellsOf 35 = 17 := by kernel_rfl
    rw [hc2] at hcell
    have each : ∀ i, i < len → ∃ X, (∀ k, k < 17 → W.cell? (ad.add (17 * i + k)) = some (adV X.1 X.2 k)) ∧ Byts 16 (X : Bool × (Nat → Int)).2 := fun i hi => by
      obtain ⟨cs', h1, h2⟩ := hcell i (by omega)
      obtain ⟨_, hlen, hc⟩ := World.cells?_some h1
      obtain ⟨v, b, hb, _, hcs, _⟩ := trod_ad h2
      have hbb : Byts 16 ((v, b) : Bool × (Nat → Int)).2 := hb
      refine ⟨_, fun k hk => ?_, hbb⟩
      have := hc k (by omega)
      rw [Addr.add_add] at this
      rw [Nat.mul_comm 17 i, this]
      exact hcs k hk
    refine ⟨len, fun i => if h : i < len then (each i h).choose else (false, fun _ => 0), ⟨some ad, cap, rfl, fun j hj => ?_⟩, by omega⟩
    have h0 := (each j hj).choose_spec
    simp only [dif_pos hj]
    refine ⟨⟨ad, rfl, ?_, h0.1⟩, h0.2⟩
    have := World.block_lt_of_cell? _ _ (h0.1 0 (by omega))
    rwa [add_blk] at this

end
theorem isOp10 : IsSt 39 20 := ⟨_, Try.underlying39, rfl, by kernel_rfl⟩
theorem zeroOp10 (w : World) : (zeroValue 39).run Try.prog w = .ok (.agg (SC 20 (opV10 ⟨0, 0, false, fun _ => 0, 0⟩))) w := by kernel_rfl
theorem OpsAt10.at {w w' : World} {v : Value} {n : Nat} {X : Nat → Op10} (h : OpsAt10 w v n X) (hB : Below w.heap.size w w') (j : Nat) (hj : j < n) : ∃ ad cap, v = .slice (some ad) n cap ∧ (∀ k, k < 20 → w'.cell? ((ad.add (20 * j)).add k) = some (opV10 (X j) k)) ∧ Byts 16 (X j).b ∧ (Lit.int .i64 (X j).n).wf = true := by
  obtain ⟨a, cap, rfl, h⟩ := h
  obtain ⟨⟨ad, rfl, hb, hc⟩, h2, h3⟩ := h j hj
  refine ⟨ad, cap, rfl, fun k hk => ?_, h2, h3⟩
  rw [Addr.add_add, hB.cell (p := ad.add (20 * j + k)) (by rw [add_blk]; exact hb)]
  exact hc k hk
theorem AdsAt10.at {w w' : World} {v : Value} {n : Nat} {X : Nat → Bool × (Nat → Int)} (h : AdsAt10 w v n X) (hB : Below w.heap.size w w') (j : Nat) (hj : j < n) : ∃ ad cap, v = .slice (some ad) n cap ∧ (∀ k, k < 17 → w'.cell? ((ad.add (17 * j)).add k) = some (adV (X j).1 (X j).2 k)) ∧ Byts 16 (X j).2 := by
  obtain ⟨a, cap, rfl, h⟩ := h
  obtain ⟨⟨ad, rfl, hb, hc⟩, h2⟩ := h j hj
  refine ⟨ad, cap, rfl, fun k hk => ?_, h2⟩
  rw [Addr.add_add, hB.cell (p := ad.add (17 * j + k)) (by rw [add_blk]; exact hb)]
  exact hc k hk
section
variable {a : Act} {o : Oper} {w : World} {x y : Operand}
theorem exec_ixOp10 (ho : o.op = .indexAddr 22 x y) {p : Addr} {n c i : Nat} (hx : a.eval x = .slice (some p) n c) (hy : a.eval y = .int .i64 (i : Int)) (hi : i < n) : (execOp a.eval o).run Try.prog w = .ok (.value (.pointer (some (p.add (20 * i))))) w := by
  unfold execOp
  simp only [ho, hx, hy, Sem.run_bind]
  rw [run_indexAt_slice w 22 _ n c .i64 (i : Int) Try.underlying22, if_pos ⟨by omega, by omega⟩, show (sizeOf (Try.prog.elem 22)).run Try.prog w = .ok 20 w by kernel_rfl]
  simp [Nat.mul_comm]
theorem exec_ixAd10 (ho : o.op = .indexAddr 51 x y) {p : Addr} {n c i : Nat} (hx : a.eval x = .slice (some p) n c) (hy : a.eval y = .int .i64 (i : Int)) (hi : i < n) : (execOp a.eval o).run Try.prog w = .ok (.value (.pointer (some (p.add (17 * i))))) w := by
  unfold execOp
  simp only [ho, hx, hy, Sem.run_bind]
  rw [run_indexAt_slice w 51 _ n c .i64 (i : Int) Try.underlying51, if_pos ⟨by omega, by omega⟩, show (sizeOf (Try.prog.elem 51)).run Try.prog w = .ok 17 w by kernel_rfl]
  simp [Nat.mul_comm]
theorem exec_ldOp10 (ho : o.op = .load 39 x) {p : Addr} {X : Op10} (hx : a.eval x = .pointer (some p)) (hc : ∀ k, k < 20 → w.cell? (p.add k) = some (opV10 X k)) : (execOp a.eval o).run Try.prog w = .ok (.value (.agg (SC 20 (opV10 X)))) w := by
  have h := run_loadAt_addr w p 39 (SC 20 (opV10 X)).toList _ (fun j v hv => by
    have hj : j < 20 := by have := (List.getElem?_eq_some_iff.1 hv).1; rwa [Array.length_toList, SC_size] at this
    rw [hc j hj, ← SC_get 20 _ j hj, ← Array.getElem?_toList, hv]) Try.underlying39 rfl (by rw [Array.length_toList, SC_size]; kernel_rfl)
  exact exec_ld ho hx h
theorem exec_ldAd10 (ho : o.op = .load 35 x) {p : Addr} {v : Bool} {b : Nat → Int} (hx : a.eval x = .pointer (some p)) (hc : ∀ k, k < 17 → w.cell? (p.add k) = some (adV v b k)) : (execOp a.eval o).run Try.prog w = .ok (.value (.agg (SC 17 (adV v b)))) w := by
  have h := run_loadAt_addr w p 35 (SC 17 (adV v b)).toList _ (fun j u hv => by
    have hj : j < 17 := by have := (List.getElem?_eq_some_iff.1 hv).1; rwa [Array.length_toList, SC_size] at this
    rw [hc j hj, ← SC_get 17 _ j hj, ← Array.getElem?_toList, hv]) Try.underlying35 rfl (by rw [Array.length_toList, SC_size]; kernel_rfl)
  exact exec_ld ho hx h
theorem op10_k {g : Nat} {X : Op10} (h : SAt w g 39 20 (opV10 X)) : w.cell? ⟨g, 0, none⟩ = some (.int .i64 X.kd) := SAt.at h 0 (by omega)
theorem op10_o {g : Nat} {X : Op10} (h : SAt w g 39 20 (opV10 X)) : w.cell? ⟨g, 1, none⟩ = some (.int .i64 X.ow) := SAt.at h 1 (by omega)
theorem op10_p {g : Nat} {X : Op10} (h : SAt w g 39 20 (opV10 X)) (j : Nat) (hj : j < 18) : w.cell? ⟨g, 2 + j, none⟩ = some (prV X.v X.b X.n j) := by
  have := SAt.at h (2 + j) (by omega)
  rw [this]
  unfold opV10
  rw [if_neg (by omega), if_neg (by omega), show 2 + j - 2 = j by omega]
theorem run_fop10 (b o : Nat) (w : World) (k : Nat) : k < 3 → (Instr.fieldAt 39 (.pointer (some ⟨b, o, none⟩)) k).run Try.prog w = .ok (.pointer (some ⟨b, o + k, none⟩)) w := by
  intro hk
  match k, hk with
  | 0, _ => simp [go_sem]
  | 1, _ => simp [go_sem]
  | 2, _ => simp [go_sem]
theorem exec_fop10 {k : Nat} (ho : o.op = .fieldAddr 39 x k) {b f : Nat} (hx : a.eval x = .pointer (some ⟨b, f, none⟩)) (hk : k < 3) : (execOp a.eval o).run Try.prog w = .ok (.value (.pointer (some ⟨b, f + k, none⟩))) w := by
  have h := run_fop10 b f w k hk
  unfold execOp
  simp only [ho, hx]
  simp [h]
/-- The prefix of a call. -/
theorem exec_ldOpP (ho : o.op = .load 37 x) {g : Nat} {X : Op10} (hg : SAt w g 39 20 (opV10 X)) (hx : a.eval x = .pointer (some ⟨g, 2, none⟩)) : (execOp a.eval o).run Try.prog w = .ok (.value (.agg (SC 18 (prV X.v X.b X.n)))) w := by
  have h := run_loadAt_addr w ⟨g, 2, none⟩ 37 (SC 18 (prV X.v X.b X.n)).toList _ (fun j u hv => by
    have hj : j < 18 := by have := (List.getElem?_eq_some_iff.1 hv).1; rwa [Array.length_toList, SC_size] at this
    rw [Addr.add_lit, op10_p hg j hj, ← SC_get 18 _ j hj, ← Array.getElem?_toList, hv]) Try.underlying37 rfl (by rw [Array.length_toList, SC_size]; kernel_rfl)
  exact exec_ld ho hx h
/-- The address of a call's prefix. -/
theorem exec_ldOpA (ho : o.op = .load 35 x) {g : Nat} {X : Op10} (hg : SAt w g 39 20 (opV10 X)) (hx : a.eval x = .pointer (some ⟨g, 2, none⟩)) : (execOp a.eval o).run Try.prog w = .ok (.value (.agg (SC 17 (adV X.v X.b)))) w := by
  have h := run_loadAt_addr w ⟨g, 2, none⟩ 35 (SC 17 (adV X.v X.b)).toList _ (fun j u hv => by
    have hj : j < 17 := by have := (List.getElem?_eq_some_iff.1 hv).1; rwa [Array.length_toList, SC_size] at this
    rw [Addr.add_lit, op10_p hg j (by omega), show prV X.v X.b X.n j = adV X.v X.b j by unfold prV; rw [if_pos hj], ← SC_get 17 _ j hj, ← Array.getElem?_toList, hv]) Try.underlying35 rfl (by rw [Array.length_toList, SC_size]; kernel_rfl)
  exact exec_ld ho hx h
end
end Go.Proofs.Ytcpnleanjclfjaa
