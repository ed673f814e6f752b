/-
  Own text. Packets, and what is lost, as arguments. (After our own text of a packet as an argument.)
-/
import Derived.Test.YtojekoakgpkkdaaDoorJ9
import Derived.Test.YtojekoakgpkkdaaDoorRows
import Derived.ChangeSlices
import Derived.Deep.Slices
import Derived.Deep.SlicePairs
import Derived.ChangeSame
import Derived.OpenShut
import Derived.ProofKit
import Derived.SizedLaws
import Derived.Stop.Joined
namespace Go.Proofs.YtojekoakgpkkdaaDoor
open Go.ChangeShapes Go.WideShapes Go.ChangeAt Go.WideMaps Go.WideElems Go.RowKit Go.Proofs
set_option maxRecDepth 100000
/-- What is known of a packet that was handed in. -/
structure PkIn (P : Pk) : Prop where
  n : P.exts.length * 24 ≤ 140737488351232
  b : ∀ x ∈ P.exts, x.body.size ≤ 140737488355328
  p : P.pay.size ≤ 140737488355328
theorem PkIn.len {P : Pk} (h : PkIn P) : P.exts.length < 4611686018427387904 := by have := h.n; omega
theorem laid13 : laidOutB Tryd.prog = true := by kernel_rfl
theorem cells8 : Tryd.prog.cellsOf 5 = 1 := by kernel_rfl
theorem tk1 {cs : List Value} {o : Nat} {x : Value} (h : (cs.drop o).take 1 = [x]) : cs[o]? = some x := by
  have h1 : ((cs.drop o).take 1)[0]? = some x := by rw [h]; rfl
  rw [List.getElem?_take, if_pos (by omega), List.getElem?_drop] at h1
  simpa using h1
theorem tkN {cs : List Value} {o n i : Nat} (hi : i < n) : ((cs.drop o).take n)[i]? = cs[o + i]? := by
  rw [List.getElem?_take, if_pos hi, List.getElem?_drop]
theorem sc_list {cs : List Value} {n : Nat} {V : Nat → Value} (hl : cs.length = n) (h : ∀ i, i < n → cs[i]? = some (V i)) : cs = (SC n V).toList := by
  apply List.ext_getElem?
  intro i
  by_cases hi : i < n
  · rw [h i hi, Array.getElem?_toList, SC_get n V i hi]
  · rw [List.getElem?_eq_none (by omega), List.getElem?_eq_none (by rw [Array.length_toList, SC_size]; omega)]
def kOf : Value → Int
  | .int .i64 k => k
  | _ => 0
def sOf : Value → ByteArray
  | .string s => s
  | _ => ByteArray.empty
theorem weightsAll_mem {H : Type} {P : Program} {e : TypeId} : ∀ {l : List (DataW H)} {d : DataW H}, d ∈ l → ∀ n ∈ d.weights P e, n ∈ DataW.weightsAll P e l
  | [], _, h, _, _ => by cases h
  | a :: l, d, h, n, hn => by
    unfold DataW.weightsAll
    rcases List.mem_cons.1 h with rfl | h
    · exact List.mem_append.2 (.inl hn)
    · exact List.mem_append.2 (.inr (weightsAll_mem h n hn))
theorem sized_all {H : Type} {P : Program} {ts : List TypeId} {ds : List (DataW H)} (h : (DataW.weightsEach P ts ds).all (· ≤ reachBytes) = true) {j : Nat} {t : TypeId} {d : DataW H} (ht : ts[j]? = some t) (hd : ds[j]? = some d) : ∀ n ∈ d.weights P t, n ≤ reachBytes := fun n hn => by
  simpa using List.all_eq_true.1 h n (DataW.weights_mem_each ht hd n hn)
section
variable {H : Type} {enc : TypeId × Value → H} {w : World} {base : Nat} {sp : Nat → Bool} {held : Bool} {fuel : Nat} {cs : List Value} {x : DataW H × List MemPlace}
theorem trod_16 (h : DataW.trod enc Tryd.prog w base sp held fuel 22 cs = some x) : ∃ b, Byts 16 b ∧ (∀ i, i < 16 → cs[i]? = some (.int .u8 (b i))) := by
  obtain ⟨xs, m, _, hx, _, hl, hel⟩ := DataW.trod_array Tryd.underlying22 h
  have key : ∀ i, i < 16 → ∃ k : Int, cs[i]? = some (.int .u8 k) ∧ (0 ≤ k ∧ k < 256) := fun i hi => by
    have hi' := hel i hi
    rw [cells8, Nat.mul_one] at hi'
    have hxs : i < xs.length := by omega
    rw [List.getElem?_eq_getElem hxs] at hi'
    obtain ⟨k, e1, e2, wk⟩ := DataW.trod_int Tryd.underlying5 hi'
    have := bounds_u8 wk
    exact ⟨k, tk1 e1, by omega⟩
  refine ⟨fun i => match cs[i]? with | some (.int .u8 k) => k | _ => 0, fun i hi => ?_, fun i hi => ?_⟩
  · obtain ⟨k, e, hk⟩ := key i hi
    simp only [e]
    exact hk
  · obtain ⟨k, e, hk⟩ := key i hi
    simp only [e]
theorem adF : ∃ f0 f1 : Field, Tryd.prog.underlying 24 = some (.struct #[f0, f1]) ∧ f0.type = 4 ∧ f1.type = 22 ∧ f0.offset = 0 ∧ f1.offset = 1 := ⟨_, _, Tryd.underlying24, rfl, rfl, rfl, rfl⟩
theorem cAd : Tryd.prog.cellsOf 24 = 17 := by kernel_rfl
theorem cBo : Tryd.prog.cellsOf 4 = 1 := by kernel_rfl
theorem cIn : Tryd.prog.cellsOf 3 = 1 := by kernel_rfl
theorem cSt : Tryd.prog.cellsOf 9 = 1 := by kernel_rfl
theorem cEs : Tryd.prog.cellsOf 37 = 1 := by kernel_rfl
theorem c16 : Tryd.prog.cellsOf 22 = 16 := by kernel_rfl
theorem cPk : Tryd.prog.cellsOf 39 = 46 := by kernel_rfl
theorem trod_ad (h : DataW.trod enc Tryd.prog w base sp held fuel 24 cs = some x) : ∃ v b, Byts 16 b ∧ (∀ i, i < 17 → cs[i]? = some (adV v b i)) := by
  obtain ⟨f0, f1, hu, e0, e1, o0, o1⟩ := adF
  obtain ⟨y0, y1, n, hx, hl, h0, h1⟩ := trod_struct2 hu h
  rw [e0, o0, cBo] at h0
  rw [e1, o1, c16] at h1
  obtain ⟨v, hv, hv2⟩ := DataW.trod_bool Tryd.underlying4 h0
  obtain ⟨b, hb, hbs⟩ := trod_16 h1
  refine ⟨v, b, hb, fun i hi => ?_⟩
  by_cases e : i < 1
  · obtain rfl : i = 0 := by omega
    exact tk1 hv
  · have := hbs (i - 1) (by omega)
    rw [tkN (by omega), show 1 + (i - 1) = i by omega] at this
    rw [this]
    unfold adV
    rw [if_neg e]
theorem exF : ∃ f0 f1 : Field, Tryd.prog.underlying 88 = some (.struct #[f0, f1]) ∧ f0.type = 3 ∧ f1.type = 9 ∧ f0.offset = 0 ∧ f1.offset = 1 := ⟨_, _, Tryd.underlying88, rfl, rfl, rfl, rfl⟩
theorem bytesEx : Tryd.prog.bytesOf 88 = 24 := by kernel_rfl
theorem open_exs (h : DataW.trod enc Tryd.prog w base sp held fuel 37 cs = some x) : ∃ vs l, cs = [vs] ∧ ExAt w vs l ∧ ((∀ n ∈ x.1.weights Tryd.prog 37, n ≤ reachBytes) → l.length * 24 ≤ reachBytes ∧ ∀ y ∈ l, y.body.size ≤ reachBytes) := by
  obtain ⟨f0, f1, hu, e0, e1, o0, o1⟩ := exF
  rcases Go.Deep.open_slice_pairs Tryd.underlying37 hu (by kernel_rfl) o0 o1 (by rw [e0]; exact cIn) (by rw [e1]; exact cSt) h with ⟨hcs, hx⟩ | ⟨a, len, cap, m, n, V0, V1, D0, D1, P0, P1, hcs, hb, hl, hm, hmm, hx, hcell⟩
  · exact ⟨_, [], hcs, ExAt.nil w, fun _ => ⟨Nat.zero_le _, fun y hy => by cases hy⟩⟩
  have hle : len ≤ m := by rw [hmm]; split <;> omega
  have each : ∀ i, i < len → V0 i = .int .i64 (kOf (V0 i)) ∧ V1 i = .string (sOf (V1 i)) ∧ D1 i = .lit (.string (sOf (V1 i)).data.toList) := fun i hi => by
    obtain ⟨_, _, t0, t1⟩ := hcell i (by omega)
    rw [e0] at t0
    rw [e1] at t1
    obtain ⟨k, q1, _, _⟩ := DataW.trod_int Tryd.underlying3 t0
    obtain ⟨s, q2, q3, _⟩ := DataW.trod_string Tryd.underlying9 t1
    injection q1 with q1
    injection q2 with q2
    injection q3 with q3
    rw [q1, q2, q3]
    exact ⟨rfl, rfl, rfl⟩
  have hat : ∀ j y, ((List.range len).map fun i => Ex.mk (kOf (V0 i)) (sOf (V1 i)))[j]? = some y → j < len ∧ y = ⟨kOf (V0 j), sOf (V1 j)⟩ := fun j y hj => by
    have hjl : j < len := by
      have := (List.getElem?_eq_some_iff.1 hj).1
      simpa using this
    rw [List.getElem?_map, List.getElem?_range hjl] at hj
    exact ⟨hjl, (Option.some.inj hj).symm⟩
  refine ⟨_, (List.range len).map fun i => ⟨kOf (V0 i), sOf (V1 i)⟩, hcs, ⟨some a, cap, by simp, fun j y hj => ?_⟩, fun hw => ⟨?_, fun y hy => ?_⟩⟩
  · obtain ⟨hjl, rfl⟩ := hat j y hj
    obtain ⟨t0, t1, _, _⟩ := hcell j (by omega)
    obtain ⟨q0, q1, _⟩ := each j hjl
    rw [q0, Nat.mul_comm] at t0
    rw [q1, Nat.mul_comm] at t1
    have hbk := World.block_lt_of_cell? w _ t0
    rw [add_blk] at hbk
    exact ⟨a, rfl, hbk, t0, t1⟩
  · have h1 := hw ((len + (m - len)) * 24) (by
      rw [hx]
      unfold DataW.weights
      rw [Tryd.underlying37]
      simp only [List.length_map, List.length_range]
      show _ ∈ (_ * Tryd.prog.bytesOf 88) :: _
      rw [bytesEx]
      exact List.mem_cons_self ..)
    simp only [List.length_map, List.length_range]
    omega
  · obtain ⟨i, hi, rfl⟩ := List.mem_map.1 hy
    have hil : i < len := List.mem_range.1 hi
    obtain ⟨_, _, q3⟩ := each i hil
    refine hw (sOf (V1 i)).size ?_
    rw [hx]
    unfold DataW.weights
    rw [Tryd.underlying37]
    refine List.mem_cons_of_mem _ (List.mem_append.2 (.inl (weightsAll_mem (d := .agg [D0 i, D1 i]) (List.mem_map.2 ⟨i, hi, rfl⟩) _ ?_)))
    unfold DataW.weights
    rw [hu]
    show _ ∈ DataW.weightsEach Tryd.prog [f0.type, f1.type] [D0 i, D1 i]
    unfold DataW.weightsEach
    refine List.mem_append.2 (.inr ?_)
    unfold DataW.weightsEach
    refine List.mem_append.2 (.inl ?_)
    rw [q3]
    unfold DataW.weights
    exact List.mem_singleton.2 rfl
theorem pkF : ∃ f0 f1 f2 f3 f4 f5 f6 f7 f8 f9 f10 f11 f12 f13 : Field, Tryd.prog.underlying 39 = some (.struct #[f0, f1, f2, f3, f4, f5, f6, f7, f8, f9, f10, f11, f12, f13]) ∧ f0.type = 24 ∧ f0.offset = 0 ∧ f1.type = 24 ∧ f1.offset = 17 ∧ f2.type = 3 ∧ f2.offset = 34 ∧ f3.type = 3 ∧ f3.offset = 35 ∧ f4.type = 3 ∧ f4.offset = 36 ∧ f5.type = 3 ∧ f5.offset = 37 ∧ f6.type = 3 ∧ f6.offset = 38 ∧ f7.type = 4 ∧ f7.offset = 39 ∧ f8.type = 4 ∧ f8.offset = 40 ∧ f9.type = 9 ∧ f9.offset = 41 ∧ f10.type = 3 ∧ f10.offset = 42 ∧ f11.type = 37 ∧ f11.offset = 43 ∧ f12.type = 4 ∧ f12.offset = 44 ∧ f13.type = 9 ∧ f13.offset = 45 := ⟨_, _, _, _, _, _, _, _, _, _, _, _, _, _, Tryd.underlying39, rfl, rfl, rfl, rfl, rfl, rfl, rfl, rfl, rfl, rfl, rfl, rfl, rfl, rfl, rfl, rfl, rfl, rfl, rfl, rfl, rfl, rfl, rfl, rfl, rfl, rfl, rfl, rfl⟩
/-- A packet's cells. -/
theorem trod_pk (h : DataW.trod enc Tryd.prog w base sp held fuel 39 cs = some x) : ∃ P vs, PkOk P ∧ (∀ i, i < 46 → cs[i]? = some (pkV P vs i)) ∧ ExAt w vs P.exts ∧ ((∀ n ∈ x.1.weights Tryd.prog 39, n ≤ reachBytes) → PkIn P) := by
  obtain ⟨f0, f1, f2, f3, f4, f5, f6, f7, f8, f9, f10, f11, f12, f13, hu, e0, o0, e1, o1, e2, o2, e3, o3, e4, o4, e5, o5, e6, o6, e7, o7, e8, o8, e9, o9, e10, o10, e11, o11, e12, o12, e13, o13⟩ := pkF
  obtain ⟨xs, n', _, hxx, hl, hxl, hff⟩ := DataW.trod_struct hu h
  rw [cPk] at hl
  obtain ⟨y0, y1, y2, y3, y4, y5, y6, y7, y8, y9, y10, y11, y12, y13, rfl⟩ : ∃ y0 y1 y2 y3 y4 y5 y6 y7 y8 y9 y10 y11 y12 y13, xs = [y0, y1, y2, y3, y4, y5, y6, y7, y8, y9, y10, y11, y12, y13] := by
    match xs, hxl with
    | [c0, c1, c2, c3, c4, c5, c6, c7, c8, c9, c10, c11, c12, c13], _ => exact ⟨_, _, _, _, _, _, _, _, _, _, _, _, _, _, rfl⟩
  have g0 := hff 0 f0 rfl
  rw [e0, o0, cAd] at g0
  have g1 := hff 1 f1 rfl
  rw [e1, o1, cAd] at g1
  have g2 := hff 2 f2 rfl
  rw [e2, o2, cIn] at g2
  have g3 := hff 3 f3 rfl
  rw [e3, o3, cIn] at g3
  have g4 := hff 4 f4 rfl
  rw [e4, o4, cIn] at g4
  have g5 := hff 5 f5 rfl
  rw [e5, o5, cIn] at g5
  have g6 := hff 6 f6 rfl
  rw [e6, o6, cIn] at g6
  have g7 := hff 7 f7 rfl
  rw [e7, o7, cBo] at g7
  have g8 := hff 8 f8 rfl
  rw [e8, o8, cBo] at g8
  have g9 := hff 9 f9 rfl
  rw [e9, o9, cSt] at g9
  have g10 := hff 10 f10 rfl
  rw [e10, o10, cIn] at g10
  have g11 := hff 11 f11 rfl
  rw [e11, o11, cEs] at g11
  have g12 := hff 12 f12 rfl
  rw [e12, o12, cBo] at g12
  have g13 := hff 13 f13 rfl
  rw [e13, o13, cSt] at g13
  obtain ⟨sv, sb, hsb, hs⟩ := trod_ad g0
  obtain ⟨dv, db, hdb, hd⟩ := trod_ad g1
  obtain ⟨pr, h2, _, _⟩ := DataW.trod_int Tryd.underlying3 g2
  obtain ⟨ho, h3, _, _⟩ := DataW.trod_int Tryd.underlying3 g3
  obtain ⟨cl, h4, _, _⟩ := DataW.trod_int Tryd.underlying3 g4
  obtain ⟨id, h5, _, _⟩ := DataW.trod_int Tryd.underlying3 g5
  obtain ⟨off, h6, _, _⟩ := DataW.trod_int Tryd.underlying3 g6
  obtain ⟨fl, h10, _, _⟩ := DataW.trod_int Tryd.underlying3 g10
  obtain ⟨mo, h7, _⟩ := DataW.trod_bool Tryd.underlying4 g7
  obtain ⟨st, h8, _⟩ := DataW.trod_bool Tryd.underlying4 g8
  obtain ⟨cu, h12, _⟩ := DataW.trod_bool Tryd.underlying4 g12
  obtain ⟨op, h9, _, _⟩ := DataW.trod_string Tryd.underlying9 g9
  obtain ⟨py, h13, k13, _⟩ := DataW.trod_string Tryd.underlying9 g13
  obtain ⟨vs, l, h11, hE, hwt⟩ := open_exs g11
  have hx1 := congrArg Prod.fst hxx
  refine ⟨⟨sv, sb, dv, db, pr, ho, cl, id, off, mo, st, op, fl, l, cu, py⟩, vs, ⟨hsb, hdb⟩, ?_, hE, fun hw => ?_⟩
  · intro i hi
    unfold pkV
    by_cases c1 : i < 17
    · have := hs i c1
      rw [tkN c1, Nat.zero_add] at this
      rw [if_pos c1]
      exact this
    · by_cases c2 : i < 34
      · have := hd (i - 17) (by omega)
        rw [tkN (by omega), show 17 + (i - 17) = i by omega] at this
        rw [if_neg c1, if_pos c2]
        exact this
      · rw [if_neg c1, if_neg c2]
        obtain ⟨j, rfl⟩ : ∃ j, i = 34 + j := ⟨i - 34, by omega⟩
        rw [Nat.add_sub_cancel_left]
        match j, (show j < 12 by omega) with
        | 0, _ => exact tk1 h2
        | 1, _ => exact tk1 h3
        | 2, _ => exact tk1 h4
        | 3, _ => exact tk1 h5
        | 4, _ => exact tk1 h6
        | 5, _ => exact tk1 h7
        | 6, _ => exact tk1 h8
        | 7, _ => exact tk1 h9
        | 8, _ => exact tk1 h10
        | 9, _ => exact tk1 h11
        | 10, _ => exact tk1 h12
        | 11, _ => exact tk1 h13
  · have mem : ∀ (j : Nat) (t : TypeId) (dd : DataW H), ([f0.type, f1.type, f2.type, f3.type, f4.type, f5.type, f6.type, f7.type, f8.type, f9.type, f10.type, f11.type, f12.type, f13.type] : List TypeId)[j]? = some t → ([y0.1, y1.1, y2.1, y3.1, y4.1, y5.1, y6.1, y7.1, y8.1, y9.1, y10.1, y11.1, y12.1, y13.1] : List (DataW H))[j]? = some dd → ∀ n ∈ dd.weights Tryd.prog t, n ≤ reachBytes := fun j t dd ht hdd n hn => by
      refine hw n ?_
      rw [hx1]
      unfold DataW.weights
      rw [hu]
      exact DataW.weights_mem_each (j := j) ht hdd n hn
    have m11 := hwt (fun n hn => mem 11 _ _ (by rw [← e11]; rfl) rfl n hn)
    have m13 := mem 13 9 y13.1 (by rw [← e13]; rfl) rfl py.size (by
      rw [k13]
      unfold DataW.weights
      exact List.mem_singleton.2 rfl)
    have hr : reachBytes = 140737488351232 := rfl
    rw [hr] at m11 m13
    exact ⟨m11.1, fun x hx => by have := m11.2 x hx; omega, by show py.size ≤ _; omega⟩
end
section
variable {H : Type} {enc : TypeId × Value → H} {W : World} {base : Nat} {sp : Nat → Bool} {v : Value} {d : DataW H} {p : List MemPlace}
/-- An argument that is a packet. -/
theorem open_pk (hv : Value.okWide Tryd.prog W .any base 39 v) (h : DataW.Trod enc Tryd.prog W 0 sp true 39 v d p) : ∃ P vs, PkOk P ∧ v = .agg (SC 46 (pkV P vs)) ∧ ExAt W vs P.exts ∧ ((∀ n ∈ d.weights Tryd.prog 39, n ≤ reachBytes) → PkIn P) := by
  obtain ⟨cs, rfl, hsz, _⟩ : ∃ cs, v = .agg cs ∧ cs.size = Tryd.prog.cellsOf 39 ∧ Row.okWide Tryd.prog W .any base 39 cs := by
    simpa [Value.okWide, Tryd.underlying39] using hv
  obtain ⟨fuel, hf⟩ := h
  obtain ⟨P, vs, h0, h1, h2, h3⟩ := trod_pk hf
  rw [cPk] at hsz
  exact ⟨P, vs, h0, congrArg Value.agg (Array.toList_inj.1 (sc_list (by simpa using hsz) h1)), h2, h3⟩
end
theorem PkIn.pkb {P : Pk} (h : PkIn P) (ho : PkOk P) : PkB P := ⟨ho, h.len, h.b, h.p⟩
end Go.Proofs.YtojekoakgpkkdaaDoor
