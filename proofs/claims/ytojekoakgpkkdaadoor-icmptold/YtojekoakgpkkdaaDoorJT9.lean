/-
  Own text. Packets, and what is lost, as arguments. (After our own text of a packet as an argument.)
-/
import Derived.Test.YtojekoakgpkkdaaDoorJT8
import Derived.Test.YtojekoakgpkkdaaDoorRows
import Derived.ChangeSlices
import Derived.Deep.Slices
import Derived.Deep.SlicePairs
import Derived.ChangeSame
import Derived.OpenShut
import Derived.ProofKit
import Derived.SizedLaws
import Derived.Stop.Joined
import Derived.Test.YtojekoakgpkkdaaDoorJT6
import Derived.Test.YtojekoakgpkkdaaDoorJT2
import Derived.Test.YtojekoakgpkkdaaDoorJT4
namespace Go.Proofs.YtojekoakgpkkdaaDoor
open Go.ChangeShapes Go.WideShapes Go.ChangeAt Go.WideMaps Go.WideElems Go.RowKit Go.Proofs
set_option maxRecDepth 100000
/-- What is known of a packet that was handed in. -/
structure PkIn (P : Pk) : Prop where
  n : P.exts.length * 24 ≤ 140737488351232
  b : ∀ x ∈ P.exts, x.body.size ≤ 140737488355328
  p : P.pay.size ≤ 140737488355328
theorem PkIn.len {P : Pk} (h : PkIn P) : P.exts.length < 4611686018427387904 := by have := h.n; omega
theorem laid13 : laidOutB Tryd.prog = true := by kernel_rfl
theorem cells8 : Tryd.prog.cellsOf 5 = 1 := by kernel_rfl
theorem tk1 {cs : List Value} {o : Nat} {x : Value} (h : (cs.drop o).take 1 = [x]) : cs[o]? = some x := by
  have h1 : ((cs.drop o).take 1)[0]? = some x := by rw [h]; rfl
  rw [List.getElem?_take, if_pos (by omega), List.getElem?_drop] at h1
  simpa using h1
theorem tkN {cs : List Value} {o n i : Nat} (hi : i < n) : ((cs.drop o).take n)[i]? = cs[o + i]? := by
  rw [List.getElem?_take, if_pos hi, List.getElem?_drop]
theorem sc_list {cs : List Value} {n : Nat} {V : Nat → Value} (hl : cs.length = n) (h : ∀ i, i < n → cs[i]? = some (V i)) : cs = (SC n V).toList := by
  apply List.ext_getElem?
  intro i
  by_cases hi : i < n
  · rw [h i hi, Array.getElem?_toList, SC_get n V i hi]
  · rw [List.getElem?_eq_none (by omega), List.getElem?_eq_none (by rw [Array.length_toList, SC_size]; omega)]
def kOf : Value → Int
  | .int .i64 k => k
  | _ => 0
def sOf : Value → ByteArray
  | .string s => s
  | _ => ByteArray.empty
theorem weightsAll_mem {H : Type} {P : Program} {e : TypeId} : ∀ {l : List (DataW H)} {d : DataW H}, d ∈ l → ∀ n ∈ d.weights P e, n ∈ DataW.weightsAll P e l
  | [], _, h, _, _ => by cases h
  | a :: l, d, h, n, hn => by
    unfold DataW.weightsAll
    rcases List.mem_cons.1 h with rfl | h
    · exact List.mem_append.2 (.inl hn)
    · exact List.mem_append.2 (.inr (weightsAll_mem h n hn))
theorem sized_all {H : Type} {P : Program} {ts : List TypeId} {ds : List (DataW H)} (h : (DataW.weightsEach P ts ds).all (· ≤ reachBytes) = true) {j : Nat} {t : TypeId} {d : DataW H} (ht : ts[j]? = some t) (hd : ds[j]? = some d) : ∀ n ∈ d.weights P t, n ≤ reachBytes := fun n hn => by
  simpa using List.all_eq_true.1 h n (DataW.weights_mem_each ht hd n hn)
section
variable {H : Type} {enc : TypeId × Value → H} {w : World} {base : Nat} {sp : Nat → Bool} {held : Bool} {fuel : Nat} {cs : List Value} {x : DataW H × List MemPlace}
theorem trod_16 (h : DataW.trod enc Tryd.prog w base sp held fuel 22 cs = some x) : ∃ b, Byts 16 b ∧ (∀ i, i < 16 → cs[i]? = some (.int .u8 (b i))) := by
  obtain ⟨xs, m, _, hx, _, hl, hel⟩ := DataW.trod_array Tryd.underlying22 h
  have key : ∀ i, i < 16 → ∃ k : Int, cs[i]? = some (.int .u8 k) ∧ (0 ≤ k ∧ k < 256) := fun i hi => by
    have hi' := hel i hi
    rw [cells8, Nat.mul_one] at hi'
    have hxs : i < xs.length := by omega
    rw [List.getElem?_eq_getElem hxs] at hi'
    obtain ⟨k, e1, e2, wk⟩ := DataW.trod_int Tryd.underlying5 hi'
    have := bounds_u8 wk
    exact ⟨k, tk1 e1, by omega⟩
  refine ⟨fun i => match cs[i]? with | some (.int .u8 k) => k | _ => 0, fun i hi => ?_, fun i hi => ?_⟩
  · obtain ⟨k, e, hk⟩ := key i hi
    simp only [e]
    exact hk
  · obtain ⟨k, e, hk⟩ := key i hi
    simp only [e]
theorem adF : ∃ f0 f1 : Field, Tryd.prog.underlying 24 = some (.struct #[f0, f1]) ∧ f0.type = 4 ∧ f1.type = 22 ∧ f0.offset = 0 ∧ f1.offset = 1 := ⟨_, _, Tryd.underlying24, rfl, rfl, rfl, rfl⟩
theorem cAd : Tryd.prog.cellsOf 24 = 17 := by kernel_rfl
theorem cBo : Tryd.prog.cellsOf 4 = 1 := by kernel_rfl
theorem cIn : Tryd.prog.cellsOf 3 = 1 := by kernel_rfl
theorem cSt : Tryd.prog.cellsOf 9 = 1 := by kernel_rfl
theorem cEs : Tryd.prog.cellsOf 37 = 1 := by kernel_rfl
theorem c16 : Tryd.prog.cellsOf 22 = 16 := by kernel_rfl
theorem cPk : Tryd.prog.cellsOf 39 = 46 := by kernel_rfl
theorem trod_ad (h : DataW.trod enc Tryd.prog w base sp held fuel 24 cs = some x) : ∃ v b, Byts 16 b ∧ (∀ i, i < 17 → cs[i]? = some (adV v b i)) := by
  obtain ⟨f0, f1, hu, e0, e1, o0, o1⟩ := adF
  obtain ⟨y0, y1, n, hx, hl, h0, h1⟩ := trod_struct2 hu h
  rw [e0, o0, cBo] at h0
  rw [e1, o1, c16] at h1
  obtain ⟨v, hv, hv2⟩ := DataW.trod_bool Tryd.underlying4 h0
  obtain ⟨b, hb, hbs⟩ := trod_16 h1
  refine ⟨v, b, hb, fun i hi => ?_⟩
  by_cases e : i < 1
  · obtain rfl : i = 0 := by omega
    exact tk1 hv
  · have := hbs (i - 1) (by omega)
    rw [tkN (by omega), show 1 + (i - 1) = i by omega] at this
    rw [this]
    unfold adV
    rw [if_neg e]
theorem exF : ∃ f0 f1 : Field, Tryd.prog.underlying 88 = some (.struct #[f0, f1]) ∧ f0.type = 3 ∧ f1.type = 9 ∧ f0.offset = 0 ∧ f1.offset = 1 := ⟨_, _, Tryd.underlying88, rfl, rfl, rfl, rfl⟩
theorem bytesEx : Tryd.prog.bytesOf 88 = 24 := by kernel_rfl
theorem open_exs (h : DataW.trod enc Tryd.prog w base sp held fuel 37 cs = some x) : ∃ vs l, cs = [vs] ∧ ExAt w vs l ∧ ((∀ n ∈ x.1.weights Tryd.prog 37, n ≤ reachBytes) → l.length * 24 ≤ reachBytes ∧ ∀ y ∈ l, y.body.size ≤ reachBytes) := by
  obtain ⟨f0, f1, hu, e0, e1, o0, o1⟩ := exF
  rcases Go.Deep.open_slice_pairs Tryd.underlying37 hu (by kernel_rfl) o0 o1 (by rw [e0]; exact cIn) (by rw [e1]; exact cSt) h with ⟨hcs, hx⟩ | ⟨a, len, cap, m, n, V0, V1, D0, D1, P0, P1, hcs, hb, hl, hm, hmm, hx, hcell⟩
  · exact ⟨_, [], hcs, ExAt.nil w, fun _ => ⟨Nat.zero_le _, fun y hy => by cases hy⟩⟩
  have hle : len ≤ m := by rw [hmm]; split <;> omega
  have each : ∀ i, i < len → V0 i = .int .i64 (kOf (V0 i)) ∧ V1 i = .string (sOf (V1 i)) ∧ D1 i = .lit (.string (sOf (V1 i)).data.toList) := fun i hi => by
    obtain ⟨_, _, t0, t1⟩ := hcell i (by omega)
    rw [e0] at t0
    rw [e1] at t1
    obtain ⟨k, q1, _, _⟩ := DataW.trod_int Tryd.underlying3 t0
    obtain ⟨s, q2, q3, _⟩ := DataW.trod_string Tryd.underlying9 t1
    injection q1 with q1
    injection q2 with q2
    injection q3 with q3
    rw [q1, q2, q3]
    exact ⟨rfl, rfl, rfl⟩
  have hat : ∀ j y, ((List.range len).map fun i => Ex.mk (kOf (V0 i)) (sOf (V1 i)))[j]? = some y → j < len ∧ y = ⟨kOf (V0 j), sOf (V1 j)⟩ := fun j y hj => by
    have hjl : j < len := by
      have := (List.getElem?_eq_some_iff.1 hj).1
      simpa using this
    rw [List.getElem?_map, List.getElem?_range hjl] at hj
    exact ⟨hjl, (Option.some.inj hj).symm⟩
  refine ⟨_, (List.range len).map fun i => ⟨kOf (V0 i), sOf (V1 i)⟩, hcs, ⟨some a, cap, by simp, fun j y hj => ?_⟩, fun hw => ⟨?_, fun y hy => ?_⟩⟩
  · obtain ⟨hjl, rfl⟩ := hat j y hj
    obtain ⟨t0, t1, _, _⟩ := hcell j (by omega)
    obtain ⟨q0, q1, _⟩ := each j hjl
    rw [q0, Nat.mul_comm] at t0
    rw [q1, Nat.mul_comm] at t1
    have hbk := World.block_lt_of_cell? w _ t0
    rw [add_blk] at hbk
    exact ⟨a, rfl, hbk, t0, t1⟩
  · have h1 := hw ((len + (m - len)) * 24) (by
      rw [hx]
      unfold DataW.weights
      rw [Tryd.underlying37]
      simp only [List.length_map, List.length_range]
      show _ ∈ (_ * Tryd.prog.bytesOf 88) :: _
      rw [bytesEx]
      exact List.mem_cons_self ..)
    simp only [List.length_map, List.length_range]
    omega
  · obtain ⟨i, hi, rfl⟩ := List.mem_map.1 hy
    have hil : i < len := List.mem_range.1 hi
    obtain ⟨_, _, q3⟩ := each i hil
    refine hw (sOf (V1 i)).size ?_
    rw [hx]
    unfold DataW.weights
    rw [Tryd.underlying37]
    refine List.mem_cons_of_mem _ (List.mem_append.2 (.inl (weightsAll_mem (d := .agg [D0 i, D1 i]) (List.mem_map.2 ⟨i, hi, rfl⟩) _ ?_)))
    unfold DataW.weights
    rw [hu]
    show _ ∈ DataW.weightsEach Tryd.prog [f0.type, f1.type] [D0 i, D1 i]
    unfold DataW.weightsEach
    refine List.mem_append.2 (.inr ?_)
    unfold DataW.weightsEach
    refine List.mem_append.2 (.inl ?_)
    rw [q3]
    unfold DataW.weights
    exact List.mem_singleton.2 rfl
theorem pkF : ∃ f0 f1 f2 f3 f4 f5 f6 f7 f8 f9 f10 f11 f12 f13 : Field, Tryd.prog.underlying 39 = some (.struct #[f0, f1, f2, f3, f4, f5, f6, f7, f8, f9, f10, f11, f12, f13]) ∧ f0.type = 24 ∧ f0.offset = 0 ∧ f1.type = 24 ∧ f1.offset = 17 ∧ f2.type = 3 ∧ f2.offset = 34 ∧ f3.type = 3 ∧ f3.offset = 35 ∧ f4.type = 3 ∧ f4.offset = 36 ∧ f5.type = 3 ∧ f5.offset = 37 ∧ f6.type = 3 ∧ f6.offset = 38 ∧ f7.type = 4 ∧ f7.offset = 39 ∧ f8.type = 4 ∧ f8.offset = 40 ∧ f9.type = 9 ∧ f9.offset = 41 ∧ f10.type = 3 ∧ f10.offset = 42 ∧ f11.type = 37 ∧ f11.offset = 43 ∧ f12.type = 4 ∧ f12.offset = 44 ∧ f13.type = 9 ∧ f13.offset = 45 := ⟨_, _, _, _, _, _, _, _, _, _, _, _, _, _, Tryd.underlying39, rfl, rfl, rfl, rfl, rfl, rfl, rfl, rfl, rfl, rfl, rfl, rfl, rfl, rfl, rfl, rfl, rfl, rfl, rfl, rfl, rfl, rfl, rfl, rfl, rfl, rfl, rfl, rfl⟩
/-- A packet's cells. -/
theorem trod_pk (h : DataW.trod enc Tryd.prog w base sp held fuel 39 cs = some x) : ∃ P vs, PkOk P ∧ (∀ i, i < 46 → cs[i]? = some (pkV P vs i)) ∧ ExAt w vs P.exts ∧ ((∀ n ∈ x.1.weights Tryd.prog 39, n ≤ reachBytes) → PkIn P) := by
  obtain ⟨f0, f1, f2, f3, f4, f5, f6, f7, f8, f9, f10, f11, f12, f13, hu, e0, o0, e1, o1, e2, o2, e3, o3, e4, o4, e5, o5, e6, o6, e7, o7, e8, o8, e9, o9, e10, o10, e11, o11, e12, o12, e13, o13⟩ := pkF
  obtain ⟨xs, n', _, hxx, hl, hxl, hff⟩ := DataW.trod_struct hu h
  rw [cPk] at hl
  obtain ⟨y0, y1, y2, y3, y4, y5, y6, y7, y8, y9, y10, y11, y12, y13, rfl⟩ : ∃ y0 y1 y2 y3 y4 y5 y6 y7 y8 y9 y10 y11 y12 y13, xs = [y0, y1, y2, y3, y4, y5, y6, y7, y8, y9, y10, y11, y12, y13] := by
    match xs, hxl with
    | [c0, c1, c2, c3, c4, c5, c6, c7, c8, c9, c10, c11, c12, c13], _ => exact ⟨_, _, _, _, _, _, _, _, _, _, _, _, _, _, rfl⟩
  have g0 := hff 0 f0 rfl
  rw [e0, o0, cAd] at g0
  have g1 := hff 1 f1 rfl
  rw [e1, o1, cAd] at g1
  have g2 := hff 2 f2 rfl
  rw [e2, o2, cIn] at g2
  have g3 := hff 3 f3 rfl
  rw [e3, o3, cIn] at g3
  have g4 := hff 4 f4 rfl
  rw [e4, o4, cIn] at g4
  have g5 := hff 5 f5 rfl
  rw [e5, o5, cIn] at g5
  have g6 := hff 6 f6 rfl
  rw [e6, o6, cIn] at g6
  have g7 := hff 7 f7 rfl
  rw [e7, o7, cBo] at g7
  have g8 := hff 8 f8 rfl
  rw [e8, o8, cBo] at g8
  have g9 := hff 9 f9 rfl
  rw [e9, o9, cSt] at g9
  have g10 := hff 10 f10 rfl
  rw [e10, o10, cIn] at g10
  have g11 := hff 11 f11 rfl
  rw [e11, o11, cEs] at g11
  have g12 := hff 12 f12 rfl
  rw [e12, o12, cBo] at g12
  have g13 := hff 13 f13 rfl
  rw [e13, o13, cSt] at g13
  obtain ⟨sv, sb, hsb, hs⟩ := trod_ad g0
  obtain ⟨dv, db, hdb, hd⟩ := trod_ad g1
  obtain ⟨pr, h2, _, _⟩ := DataW.trod_int Tryd.underlying3 g2
  obtain ⟨ho, h3, _, _⟩ := DataW.trod_int Tryd.underlying3 g3
  obtain ⟨cl, h4, _, _⟩ := DataW.trod_int Tryd.underlying3 g4
  obtain ⟨id, h5, _, _⟩ := DataW.trod_int Tryd.underlying3 g5
  obtain ⟨off, h6, _, _⟩ := DataW.trod_int Tryd.underlying3 g6
  obtain ⟨fl, h10, _, _⟩ := DataW.trod_int Tryd.underlying3 g10
  obtain ⟨mo, h7, _⟩ := DataW.trod_bool Tryd.underlying4 g7
  obtain ⟨st, h8, _⟩ := DataW.trod_bool Tryd.underlying4 g8
  obtain ⟨cu, h12, _⟩ := DataW.trod_bool Tryd.underlying4 g12
  obtain ⟨op, h9, _, _⟩ := DataW.trod_string Tryd.underlying9 g9
  obtain ⟨py, h13, k13, _⟩ := DataW.trod_string Tryd.underlying9 g13
  obtain ⟨vs, l, h11, hE, hwt⟩ := open_exs g11
  have hx1 := congrArg Prod.fst hxx
  refine ⟨⟨sv, sb, dv, db, pr, ho, cl, id, off, mo, st, op, fl, l, cu, py⟩, vs, ⟨hsb, hdb⟩, ?_, hE, fun hw => ?_⟩
  · intro i hi
    unfold pkV
    by_cases c1 : i < 17
    · have := hs i c1
      rw [tkN c1, Nat.zero_add] at this
      rw [if_pos c1]
      exact this
    · by_cases c2 : i < 34
      · have := hd (i - 17) (by omega)
        rw [tkN (by omega), show 17 + (i - 17) = i by omega] at this
        rw [if_neg c1, if_pos c2]
        exact this
      · rw [if_neg c1, if_neg c2]
        obtain ⟨j, rfl⟩ : ∃ j, i = 34 + j := ⟨i - 34, by omega⟩
        rw [Nat.add_sub_cancel_left]
        match j, (show j < 12 by omega) with
        | 0, _ => exact tk1 h2
        | 1, _ => exact tk1 h3
        | 2, _ => exact tk1 h4
        | 3, _ => exact tk1 h5
        | 4, _ => exact tk1 h6
        | 5, _ => exact tk1 h7
        | 6, _ => exact tk1 h8
        | 7, _ => exact tk1 h9
        | 8, _ => exact tk1 h10
        | 9, _ => exact tk1 h11
        | 10, _ => exact tk1 h12
        | 11, _ => exact tk1 h13
  · have mem : ∀ (j : Nat) (t : TypeId) (dd : DataW H), ([f0.type, f1.type, f2.type, f3.type, f4.type, f5.type, f6.type, f7.type, f8.type, f9.type, f10.type, f11.type, f12.type, f13.type] : List TypeId)[j]? = some t → ([y0.1, y1.1, y2.1, y3.1, y4.1, y5.1, y6.1, y7.1, y8.1, y9.1, y10.1, y11.1, y12.1, y13.1] : List (DataW H))[j]? = some dd → ∀ n ∈ dd.weights Tryd.prog t, n ≤ reachBytes := fun j t dd ht hdd n hn => by
      refine hw n ?_
      rw [hx1]
      unfold DataW.weights
      rw [hu]
      exact DataW.weights_mem_each (j := j) ht hdd n hn
    have m11 := hwt (fun n hn => mem 11 _ _ (by rw [← e11]; rfl) rfl n hn)
    have m13 := mem 13 9 y13.1 (by rw [← e13]; rfl) rfl py.size (by
      rw [k13]
      unfold DataW.weights
      exact List.mem_singleton.2 rfl)
    have hr : reachBytes = 140737488351232 := rfl
    rw [hr] at m11 m13
    exact ⟨m11.1, fun x hx => by have := m11.2 x hx; omega, by show py.size ≤ _; omega⟩
end
section
variable {H : Type} {enc : TypeId × Value → H} {W : World} {base : Nat} {sp : Nat → Bool} {v : Value} {d : DataW H} {p : List MemPlace}
/-- An argument that is a packet. -/
theorem open_pk (hv : Value.okWide Tryd.prog W .any base 39 v) (h : DataW.Trod enc Tryd.prog W 0 sp true 39 v d p) : ∃ P vs, PkOk P ∧ v = .agg (SC 46 (pkV P vs)) ∧ ExAt W vs P.exts ∧ ((∀ n ∈ d.weights Tryd.prog 39, n ≤ reachBytes) → PkIn P) := by
  obtain ⟨cs, rfl, hsz, _⟩ : ∃ cs, v = .agg cs ∧ cs.size = Tryd.prog.cellsOf 39 ∧ Row.okWide Tryd.prog W .any base 39 cs := by
    simpa [Value.okWide, Tryd.underlying39] using hv
  obtain ⟨fuel, hf⟩ := h
  obtain ⟨P, vs, h0, h1, h2, h3⟩ := trod_pk hf
  rw [cPk] at hsz
  exact ⟨P, vs, h0, congrArg Value.agg (Array.toList_inj.1 (sc_list (by simpa using hsz) h1)), h2, h3⟩
end
theorem PkIn.pkb {P : Pk} (h : PkIn P) (ho : PkOk P) : PkB P := ⟨ho, h.len, h.b, h.p⟩
end Go.Proofs.YtojekoakgpkkdaaDoor

/-
  Own text. The document's side of messages: their checksum, their bytes, reading them.
-/
namespace Go.Proofs.YtojekoakgpkkdaaDoor
open Go.RowKit Go.Proofs
set_option maxRecDepth 100000
theorem en_aditref12_Valid (args : Array Value) (w : World) : (callFunc 61 args).run Tryd.prog w = .ok (.enter 61 args) w := by kernel_rfl
theorem en_aditref12_Pseudo (args : Array Value) (w : World) : (callFunc 67 args).run Tryd.prog w = .ok (.enter 67 args) w := by kernel_rfl
theorem en_aditref12_Sum (args : Array Value) (w : World) : (callFunc 68 args).run Tryd.prog w = .ok (.enter 68 args) w := by kernel_rfl
theorem en_aditref15_ends (args : Array Value) (w : World) : (callFunc 35 args).run Tryd.prog w = .ok (.enter 35 args) w := by kernel_rfl
theorem en_aditref15_check (args : Array Value) (w : World) : (callFunc 37 args).run Tryd.prog w = .ok (.enter 37 args) w := by kernel_rfl
theorem en_aditref12_Get (args : Array Value) (w : World) : (callFunc 39 args).run Tryd.prog w = .ok (.enter 39 args) w := by kernel_rfl
theorem psH_t {v : Bool} (h : v = true) (b1 b2 : Nat → Int) (n : Nat) : psH v b1 b2 n = pseT v b1 v b2 58 n := if_pos h
theorem psH_f {v : Bool} (h : v = false) (b1 b2 : Nat → Int) (n : Nat) : psH v b1 b2 n = ByteArray.empty := if_neg (by rw [h]; decide)
def tw2 (A B : ByteArray) (j : Nat) : ByteArray := if j = 0 then A else B
theorem Sum2r (A B : ByteArray) (w : World) (g : Nat) (hg : w.heap[g]? = some (.cells #[.string A, .string B] 9 (0, 0))) (hs : A.size + B.size ≤ 1000000) : Calls Tryd.prog 68 #[.slice (some ⟨g, 0, none⟩) 2 2] w fun e w' => e = .returned (.int .i64 (sumT (A ++ B))) ∧ Below w.heap.size w w' := by
  have hj : joinB (tw2 A B) 2 = A ++ B := by simp [joinB, tw2]
  have hv : Strs w (.slice (some ⟨g, 0, none⟩) 2 2) 2 (tw2 A B) := strs_row' hg (fun j hj => by
    match j, hj with
    | 0, _ => rfl
    | 1, _ => rfl)
  have := rSum_run _ 2 _ w hv (by decide) (by rw [hj, ByteArray.size_append]; omega)
  rw [hj] at this
  exact this
theorem z2_size (a r : ByteArray) : (a ++ (⟨#[0, 0]⟩ : ByteArray) ++ r).size = a.size + 2 + r.size := by
  rw [ByteArray.size_append, ByteArray.size_append]
  rfl
theorem rrd {v : Bool} {b1 b2 : Nat → Int} (h1 : validF v b1 = true) (h2 : validF v b2 = true) {b : ByteArray} (hb : 4 ≤ b.size) : sumT (psH v b1 b2 (b.extract 0 2 ++ (⟨#[0, 0]⟩ : ByteArray) ++ b.extract 4 b.size).size ++ (b.extract 0 2 ++ (⟨#[0, 0]⟩ : ByteArray) ++ b.extract 4 b.size)) = (getN (txt b) 2 2 : Int) ↔ b = laidT v b1 b2 (b.extract 0 2) (b.extract 4 b.size) := by
  have hs2 : (b.extract 0 2).size = 2 := cutP_size b 0 2 (by omega)
  have hs4 : (b.extract 4 b.size).size = b.size - 4 := cutP_size b 4 _ (Nat.le_refl _)
  rw [laid_iff v b1 b2 hb, sum_doc h1 h2 _ (by omega), z2_size, hs2, hs4, show 2 + 2 + (b.size - 4) = b.size by omega]
set_option linter.unusedSimpArgs false in
set_option maxHeartbeats 4000000 in
theorem rends_run (v1 : Bool) (b1 : Nat → Int) (v2 : Bool) (b2 : Nat → Int) (w : World) : Calls Tryd.prog 35 #[.agg (SC 17 (adV v1 b1)), .agg (SC 17 (adV v2 b2))] w fun e w' => e = .returned (.bool (endsB v1 b1 v2 b2)) ∧ Below w.heap.size w w' := by
  generalize hRV : (.bool (endsB v1 b1 v2 b2) : Value) = RV
  have HRV := Hid.mk hRV
  clear hRV
  go_enter Tryd.func35, Tryd.ntmps35
  go_wp2_with (refine wl_boxO (V := adV v1 b1) rfl rfl isAddr rfl ?_; intro g1 w1 hg1 s1 hB1; refine Hid.out ?_)
  refine Hid.mk ?_
  have hz2 : w.heap.size ≤ g1 := by omega
  have hbt3 := hB1
  clear hB1 hg1
  go_wp2_with (refine wl_boxO (V := adV v2 b2) rfl rfl isAddr rfl ?_; intro g4 w4 hg4 s4 hB4; refine Hid.out ?_)
  refine Hid.mk ?_
  have hn5 : g1 ≠ g4 := by have := s1.lt; omega
  have hz6 : w.heap.size ≤ g4 := by have := hbt3.size; omega
  have s7 := s1.kept hB4
  clear s1
  have hbt8 := hbt3.trans (hB4.mono hbt3.size)
  clear hbt3
  clear hB4 hg4
  go_wp2_with (refine wl_value rfl (look_st rfl isAddr s7 rfl) ?_; refine Hid.out ?_)
  refine Hid.mk ?_
  rcases Bool.eq_false_or_eq_true (validF v1 b1) with hb9 | hb9
  · have Hhb9 := Hid.mk hb9
    clear hb9
    have HC10 : Hid (Calls Tryd.prog 61 #[.agg (SC 17 (adV v1 b1))] w4 fun e w' => e = .returned (.bool true) ∧ Below w4.heap.size w4 w') := Hid.mk (by have h := rValid_run v1 b1 w4; rw [Hhb9.out] at h; exact h)
    go_wp2_with (refine wl_cal en_aditref12_Valid HC10 rfl rfl (args1 rfl) ?_; intro w11 hB11; refine Hid.out ?_)
    refine Hid.mk ?_
    clear HC10
    have s12 := s7.kept hB11
    clear s7
    have s13 := s4.kept hB11
    clear s4
    have hbt14 := hbt8.trans (hB11.mono hbt8.size)
    clear hbt8
    clear hB11
    go_wp2_with (refine wl_value rfl (look_st rfl isAddr s13 rfl) ?_; refine Hid.out ?_)
    refine Hid.mk ?_
    rcases Bool.eq_false_or_eq_true (validF v2 b2) with hb15 | hb15
    · have Hhb15 := Hid.mk hb15
      clear hb15
      have HC16 : Hid (Calls Tryd.prog 61 #[.agg (SC 17 (adV v2 b2))] w11 fun e w' => e = .returned (.bool true) ∧ Below w11.heap.size w11 w') := Hid.mk (by have h := rValid_run v2 b2 w11; rw [Hhb15.out] at h; exact h)
      go_wp2_with (refine wl_cal en_aditref12_Valid HC16 rfl rfl (args1 rfl) ?_; intro w17 hB17; refine Hid.out ?_)
      refine Hid.mk ?_
      clear HC16
      have s18 := s12.kept hB17
      clear s12
      have s19 := s13.kept hB17
      clear s13
      have hbt20 := hbt14.trans (hB17.mono hbt14.size)
      clear hbt14
      clear hB17
      go_wp2_with (refine wl_value rfl (exec_fad0 rfl rfl) ?_; refine Hid.out ?_)
      refine Hid.mk ?_
      rcases Bool.eq_false_or_eq_true (v1) with hb21 | hb21
      · have Hhb21 := Hid.mk hb21
        clear hb21
        go_wp2_with (refine wl_value rfl (kn_ (c := true) Hhb21 (exec_ld rfl rfl (ldB (SAt.at s18 0 (by decide))))) ?_; refine Hid.out ?_)
        refine Hid.mk ?_
        go_wp2_with (refine wl_value rfl (exec_fad0 rfl rfl) ?_; refine Hid.out ?_)
        refine Hid.mk ?_
        rcases Bool.eq_false_or_eq_true (v2) with hb22 | hb22
        · have Hhb22 := Hid.mk hb22
          clear hb22
          go_wp2_with (refine wl_value rfl (kn_ (c := true) Hhb22 (exec_ld rfl rfl (ldB (SAt.at s19 0 (by decide))))) ?_; refine Hid.out ?_)
          refine Hid.mk ?_
          have HK23 : Hid ((true == true) = true) := Hid.mk rfl
          go_wp2_with (refine wl_value rfl (kn_ (c := true) HK23 (cmp_eqB (m := true) (n := true) rfl rfl rfl)) ?_; refine Hid.out ?_)
          refine Hid.mk ?_
          go_wp2_with fail
          have hv : (endsB v1 b1 v2 b2) = true := by unfold endsB; (try simp only [Hhb9.out, Hhb15.out, HK23.out]) <;> simp [Hhb9.out, Hhb15.out, HK23.out, Hhb21.out, Hhb22.out]
          go_ret
          exact ⟨Eq.trans (rfl : _ = Ending.returned (.bool true)) (by rw [← HRV.out, hv]), hbt20⟩
        · have Hhb22 := Hid.mk hb22
          clear hb22
          go_wp2_with (refine wl_value rfl (kn_ (c := false) Hhb22 (exec_ld rfl rfl (ldB (SAt.at s19 0 (by decide))))) ?_; refine Hid.out ?_)
          refine Hid.mk ?_
          have HK24 : Hid ((true == false) = false) := Hid.mk rfl
          go_wp2_with (refine wl_value rfl (kn_ (c := false) HK24 (cmp_eqB (m := true) (n := false) rfl rfl rfl)) ?_; refine Hid.out ?_)
          refine Hid.mk ?_
          go_wp2_with fail
          have hv : (endsB v1 b1 v2 b2) = false := by unfold endsB; (try simp only [Hhb9.out, Hhb15.out, HK24.out]) <;> simp [Hhb9.out, Hhb15.out, HK24.out, Hhb21.out, Hhb22.out]
          go_ret
          exact ⟨Eq.trans (rfl : _ = Ending.returned (.bool false)) (by rw [← HRV.out, hv]), hbt20⟩
      · have Hhb21 := Hid.mk hb21
        clear hb21
        go_wp2_with (refine wl_value rfl (kn_ (c := false) Hhb21 (exec_ld rfl rfl (ldB (SAt.at s18 0 (by decide))))) ?_; refine Hid.out ?_)
        refine Hid.mk ?_
        go_wp2_with (refine wl_value rfl (exec_fad0 rfl rfl) ?_; refine Hid.out ?_)
        refine Hid.mk ?_
        rcases Bool.eq_false_or_eq_true (v2) with hb25 | hb25
        · have Hhb25 := Hid.mk hb25
          clear hb25
          go_wp2_with (refine wl_value rfl (kn_ (c := true) Hhb25 (exec_ld rfl rfl (ldB (SAt.at s19 0 (by decide))))) ?_; refine Hid.out ?_)
          refine Hid.mk ?_
          have HK26 : Hid ((false == true) = false) := Hid.mk rfl
          go_wp2_with (refine wl_value rfl (kn_ (c := false) HK26 (cmp_eqB (m := false) (n := true) rfl rfl rfl)) ?_; refine Hid.out ?_)
          refine Hid.mk ?_
          go_wp2_with fail
          have hv : (endsB v1 b1 v2 b2) = false := by unfold endsB; (try simp only [Hhb9.out, Hhb15.out, HK26.out]) <;> simp [Hhb9.out, Hhb15.out, HK26.out, Hhb21.out, Hhb25.out]
          go_ret
          exact ⟨Eq.trans (rfl : _ = Ending.returned (.bool false)) (by rw [← HRV.out, hv]), hbt20⟩
        · have Hhb25 := Hid.mk hb25
          clear hb25
          go_wp2_with (refine wl_value rfl (kn_ (c := false) Hhb25 (exec_ld rfl rfl (ldB (SAt.at s19 0 (by decide))))) ?_; refine Hid.out ?_)
          refine Hid.mk ?_
          have HK27 : Hid ((false == false) = true) := Hid.mk rfl
          go_wp2_with (refine wl_value rfl (kn_ (c := true) HK27 (cmp_eqB (m := false) (n := false) rfl rfl rfl)) ?_; refine Hid.out ?_)
          refine Hid.mk ?_
          go_wp2_with fail
          have hv : (endsB v1 b1 v2 b2) = true := by unfold endsB; (try simp only [Hhb9.out, Hhb15.out, HK27.out]) <;> simp [Hhb9.out, Hhb15.out, HK27.out, Hhb21.out, Hhb25.out]
          go_ret
          exact ⟨Eq.trans (rfl : _ = Ending.returned (.bool true)) (by rw [← HRV.out, hv]), hbt20⟩
    · have Hhb15 := Hid.mk hb15
      clear hb15
      have HC28 : Hid (Calls Tryd.prog 61 #[.agg (SC 17 (adV v2 b2))] w11 fun e w' => e = .returned (.bool false) ∧ Below w11.heap.size w11 w') := Hid.mk (by have h := rValid_run v2 b2 w11; rw [Hhb15.out] at h; exact h)
      go_wp2_with (refine wl_cal en_aditref12_Valid HC28 rfl rfl (args1 rfl) ?_; intro w29 hB29; refine Hid.out ?_)
      refine Hid.mk ?_
      clear HC28
      have s30 := s12.kept hB29
      clear s12
      have s31 := s13.kept hB29
      clear s13
      have hbt32 := hbt14.trans (hB29.mono hbt14.size)
      clear hbt14
      clear hB29
      go_wp2_with fail
      have hv : (endsB v1 b1 v2 b2) = false := by unfold endsB; simp [Hhb9.out, Hhb15.out]
      go_ret
      exact ⟨Eq.trans (rfl : _ = Ending.returned (.bool false)) (by rw [← HRV.out, hv]), hbt32⟩
  · have Hhb9 := Hid.mk hb9
    clear hb9
    have HC33 : Hid (Calls Tryd.prog 61 #[.agg (SC 17 (adV v1 b1))] w4 fun e w' => e = .returned (.bool false) ∧ Below w4.heap.size w4 w') := Hid.mk (by have h := rValid_run v1 b1 w4; rw [Hhb9.out] at h; exact h)
    go_wp2_with (refine wl_cal en_aditref12_Valid HC33 rfl rfl (args1 rfl) ?_; intro w34 hB34; refine Hid.out ?_)
    refine Hid.mk ?_
    clear HC33
    have s35 := s7.kept hB34
    clear s7
    have s36 := s4.kept hB34
    clear s4
    have hbt37 := hbt8.trans (hB34.mono hbt8.size)
    clear hbt8
    clear hB34
    go_wp2_with (refine wl_value rfl (look_st rfl isAddr s36 rfl) ?_; refine Hid.out ?_)
    refine Hid.mk ?_
    rcases Bool.eq_false_or_eq_true (validF v2 b2) with hb38 | hb38
    · have Hhb38 := Hid.mk hb38
      clear hb38
      have HC39 : Hid (Calls Tryd.prog 61 #[.agg (SC 17 (adV v2 b2))] w34 fun e w' => e = .returned (.bool true) ∧ Below w34.heap.size w34 w') := Hid.mk (by have h := rValid_run v2 b2 w34; rw [Hhb38.out] at h; exact h)
      go_wp2_with (refine wl_cal en_aditref12_Valid HC39 rfl rfl (args1 rfl) ?_; intro w40 hB40; refine Hid.out ?_)
      refine Hid.mk ?_
      clear HC39
      have s41 := s35.kept hB40
      clear s35
      have s42 := s36.kept hB40
      clear s36
      have hbt43 := hbt37.trans (hB40.mono hbt37.size)
      clear hbt37
      clear hB40
      go_wp2_with fail
      have hv : (endsB v1 b1 v2 b2) = false := by unfold endsB; simp [Hhb9.out, Hhb38.out]
      go_ret
      exact ⟨Eq.trans (rfl : _ = Ending.returned (.bool false)) (by rw [← HRV.out, hv]), hbt43⟩
    · have Hhb38 := Hid.mk hb38
      clear hb38
      have HC44 : Hid (Calls Tryd.prog 61 #[.agg (SC 17 (adV v2 b2))] w34 fun e w' => e = .returned (.bool false) ∧ Below w34.heap.size w34 w') := Hid.mk (by have h := rValid_run v2 b2 w34; rw [Hhb38.out] at h; exact h)
      go_wp2_with (refine wl_cal en_aditref12_Valid HC44 rfl rfl (args1 rfl) ?_; intro w45 hB45; refine Hid.out ?_)
      refine Hid.mk ?_
      clear HC44
      have s46 := s35.kept hB45
      clear s35
      have s47 := s36.kept hB45
      clear s36
      have hbt48 := hbt37.trans (hB45.mono hbt37.size)
      clear hbt37
      clear hB45
      go_wp2_with fail
      have hv : (endsB v1 b1 v2 b2) = false := by unfold endsB; simp [Hhb9.out, Hhb38.out]
      go_ret
      exact ⟨Eq.trans (rfl : _ = Ending.returned (.bool false)) (by rw [← HRV.out, hv]), hbt48⟩
set_option linter.unusedSimpArgs false in
set_option maxHeartbeats 4000000 in
theorem rcheck_run (v : Bool) (b1 b2 : Nat → Int) (T : ByteArray) (w : World) (hb1 : Byts 16 b1) (hb2 : Byts 16 b2) (h1 : validF v b1 = true) (h2 : validF v b2 = true) (hs : T.size ≤ 65535) : Calls Tryd.prog 37 #[.agg (SC 17 (adV v b1)), .agg (SC 17 (adV v b2)), .string T] w fun e w' => e = .returned (.int .i64 (sumT (psH v b1 b2 T.size ++ T))) ∧ Below w.heap.size w w' := by
  generalize hRV : (.int .i64 (sumT (psH v b1 b2 T.size ++ T)) : Value) = RV
  have HRV := Hid.mk hRV
  clear hRV
  have HS := Hid.mk hs
  have HV := Hid.mk (And.intro h1 h2)
  clear hs h1 h2
  go_enter Tryd.func37, Tryd.ntmps37
  go_wp2_with (refine wl_boxO (V := adV v b1) rfl rfl isAddr rfl ?_; intro g1 w1 hg1 s1 hB1; refine Hid.out ?_)
  refine Hid.mk ?_
  have hz2 : w.heap.size ≤ g1 := by omega
  have hbt3 := hB1
  clear hB1 hg1
  go_wp2_with (refine wl_boxO (V := adV v b2) rfl rfl isAddr rfl ?_; intro g4 w4 hg4 s4 hB4; refine Hid.out ?_)
  refine Hid.mk ?_
  have hn5 : g1 ≠ g4 := by have := s1.lt; omega
  have hz6 : w.heap.size ≤ g4 := by have := hbt3.size; omega
  have s7 := s1.kept hB4
  clear s1
  have hbt8 := hbt3.trans (hB4.mono hbt3.size)
  clear hbt3
  clear hB4 hg4
  go_wp2_with (refine wl_value rfl (exec_fad0 rfl rfl) ?_; refine Hid.out ?_)
  refine Hid.mk ?_
  rcases Bool.eq_false_or_eq_true (v) with hb9 | hb9
  · have Hhb9 := Hid.mk hb9
    clear hb9
    go_wp2_with (refine wl_value rfl (kn_ (c := true) Hhb9 (exec_ld rfl rfl (ldB (SAt.at s7 0 (by decide))))) ?_; refine Hid.out ?_)
    refine Hid.mk ?_
    go_wp2_with (refine wl_value rfl (look_st rfl isAddr s7 rfl) ?_; refine Hid.out ?_)
    refine Hid.mk ?_
    go_wp2_with (refine wl_value rfl (look_st rfl isAddr s4 rfl) ?_; refine Hid.out ?_)
    refine Hid.mk ?_
    go_wp2_with (refine wl_value rfl (exec_lenS rfl rfl) ?_; refine Hid.out ?_)
    refine Hid.mk ?_
    have HZ10 := Hid.mk (psH_size HV.out.1 HV.out.2 T.size)
    have HC11 : Hid (Calls Tryd.prog 67 #[.agg (SC 17 (adV v b1)), .agg (SC 17 (adV v b2)), .int .i64 58, .int .i64 (T.size : Int)] w4 fun e w' => e = .returned (.string (psH v b1 b2 T.size)) ∧ Below w4.heap.size w4 w') := Hid.mk (by have h := rPseudo_run v b1 v b2 58 T.size w4 hb1 hb2 ⟨HV.out.1, HV.out.2, rfl, by decide, by decide, by omega, by have := HS.out; omega⟩; rw [← psH_t Hhb9.out] at h; exact h)
    go_wp2_with (refine wl_cal en_aditref12_Pseudo HC11 rfl rfl (args4 rfl rfl rfl rfl) ?_; intro w12 hB12; refine Hid.out ?_)
    refine Hid.mk ?_
    clear HC11
    have s13 := s7.kept hB12
    clear s7
    have s14 := s4.kept hB12
    clear s4
    have hbt15 := hbt8.trans (hB12.mono hbt8.size)
    clear hbt8
    clear hB12
    go_wp2_with (refine wl_bsT2 (s := psH v b1 b2 T.size) (t := T) rfl rfl rfl rfl ?_; intro g16 w16 hg16 hr16 hB16; refine Hid.out ?_)
    refine Hid.mk ?_
    clear hg16
    have s17 := s13.kept hB16
    clear s13
    have s18 := s14.kept hB16
    clear s14
    have hbt19 := hbt15.trans (hB16.mono hbt15.size)
    clear hbt15
    clear hB16
    have HZ20 := Hid.mk (sumT_b ((psH v b1 b2 T.size) ++ T))
    have HC21 : Hid (Calls Tryd.prog 68 #[.slice (some ⟨g16, 0, none⟩) 2 2] w16 fun e w' => e = .returned (.int .i64 (sumT ((psH v b1 b2 T.size) ++ T))) ∧ Below w16.heap.size w16 w') := Hid.mk (Sum2r (psH v b1 b2 T.size) T w16 g16 hr16 (by have := HS.out; have := HZ10.out; have := HZ20.out; omega))
    go_wp2_with (refine wl_cal en_aditref12_Sum HC21 rfl rfl (args1 rfl) ?_; intro w22 hB22; refine Hid.out ?_)
    refine Hid.mk ?_
    clear HC21
    have s23 := s17.kept hB22
    clear s17
    have s24 := s18.kept hB22
    clear s18
    have hbt25 := hbt19.trans (hB22.mono hbt19.size)
    clear hbt19
    clear hB22
    go_wp2_with fail
    go_ret
    exact ⟨Eq.trans (rfl : _ = Ending.returned (.int .i64 (sumT ((psH v b1 b2 T.size) ++ T)))) (by rw [← HRV.out]), hbt25⟩
  · have Hhb9 := Hid.mk hb9
    clear hb9
    go_wp2_with (refine wl_value rfl (kn_ (c := false) Hhb9 (exec_ld rfl rfl (ldB (SAt.at s7 0 (by decide))))) ?_; refine Hid.out ?_)
    refine Hid.mk ?_
    go_wp2_with (refine wl_bsT2 (s := ByteArray.empty) (t := T) rfl rfl rfl rfl ?_; intro g26 w26 hg26 hr26 hB26; refine Hid.out ?_)
    refine Hid.mk ?_
    clear hg26
    have s27 := s7.kept hB26
    clear s7
    have s28 := s4.kept hB26
    clear s4
    have hbt29 := hbt8.trans (hB26.mono hbt8.size)
    clear hbt8
    clear hB26
    have HZ30 := Hid.mk (sumT_b (ByteArray.empty ++ T))
    have HC31 : Hid (Calls Tryd.prog 68 #[.slice (some ⟨g26, 0, none⟩) 2 2] w26 fun e w' => e = .returned (.int .i64 (sumT (ByteArray.empty ++ T))) ∧ Below w26.heap.size w26 w') := Hid.mk (Sum2r ByteArray.empty T w26 g26 hr26 (by have := HS.out; have := HZ30.out; have he0 : ByteArray.empty.size = 0 := rfl; omega))
    go_wp2_with (refine wl_cal en_aditref12_Sum HC31 rfl rfl (args1 rfl) ?_; intro w32 hB32; refine Hid.out ?_)
    refine Hid.mk ?_
    clear HC31
    have s33 := s27.kept hB32
    clear s27
    have s34 := s28.kept hB32
    clear s28
    have hbt35 := hbt29.trans (hB32.mono hbt29.size)
    clear hbt29
    clear hB32
    go_wp2_with fail
    have hP : psH v b1 b2 T.size = ByteArray.empty := psH_f Hhb9.out b1 b2 T.size
    go_ret
    exact ⟨Eq.trans (rfl : _ = Ending.returned (.int .i64 (sumT (ByteArray.empty ++ T)))) (by rw [← HRV.out, hP]), hbt35⟩
set_option linter.unusedSimpArgs false in
set_option maxHeartbeats 4000000 in
theorem dParse_run (v1 : Bool) (b1 : Nat → Int) (v2 : Bool) (b2 : Nat → Int) (b : ByteArray) (w : World) (hb1 : Byts 16 b1) (hb2 : Byts 16 b2) (hs : b.size < 4611686018427387904) : Calls Tryd.prog 12 #[.agg (SC 17 (adV v1 b1)), .agg (SC 17 (adV v2 b2)), .string b] w fun e w' => e = .returned (.tuple #[.agg (SC 4 (msV (mRdM v1 b1 v2 b2 b))), .int .i64 (mRdE v1 b1 v2 b2 b)]) ∧ Below w.heap.size w w' := by
  generalize hRV : (.tuple #[.agg (SC 4 (msV (mRdM v1 b1 v2 b2 b))), .int .i64 (mRdE v1 b1 v2 b2 b)] : Value) = RV
  have HRV := Hid.mk hRV
  clear hRV
  have HS := Hid.mk hs
  clear hs
  obtain ⟨T, hT⟩ : ∃ T, T = b.extract 0 2 ++ (⟨#[0, 0]⟩ : ByteArray) ++ b.extract 4 b.size := ⟨_, rfl⟩
  have HT := Hid.mk hT
  clear hT
  have HZ0 : Hid ((⟨#[0, 0]⟩ : ByteArray).size = 2) := Hid.mk rfl
  go_enter Tryd.func12, Tryd.ntmps12
  go_wp2_with (refine wl_boxO (V := adV v1 b1) rfl rfl isAddr rfl ?_; intro g1 w1 hg1 s1 hB1; refine Hid.out ?_)
  refine Hid.mk ?_
  have hz2 : w.heap.size ≤ g1 := by omega
  have hbt3 := hB1
  clear hB1 hg1
  go_wp2_with (refine wl_boxO (V := adV v2 b2) rfl rfl isAddr rfl ?_; intro g4 w4 hg4 s4 hB4; refine Hid.out ?_)
  refine Hid.mk ?_
  have hn5 : g1 ≠ g4 := by have := s1.lt; omega
  have hz6 : w.heap.size ≤ g4 := by have := hbt3.size; omega
  have s7 := s1.kept hB4
  clear s1
  have hbt8 := hbt3.trans (hB4.mono hbt3.size)
  clear hbt3
  clear hB4 hg4
  go_wp2_with (refine wl_alO (V := msV ms0) rfl rfl zeroMs ?_; intro g9 w9 hg9 s9 hB9; refine Hid.out ?_)
  refine Hid.mk ?_
  have hn10 : g1 ≠ g9 := by have := s7.lt; omega
  have hn11 : g4 ≠ g9 := by have := s4.lt; omega
  have hz12 : w.heap.size ≤ g9 := by have := hbt8.size; omega
  have s13 := s7.kept hB9
  clear s7
  have s14 := s4.kept hB9
  clear s4
  have hbt15 := hbt8.trans (hB9.mono hbt8.size)
  clear hbt8
  clear hB9 hg9
  go_wp2_with (refine wl_value rfl (look_st rfl isAddr s13 rfl) ?_; refine Hid.out ?_)
  refine Hid.mk ?_
  go_wp2_with (refine wl_value rfl (look_st rfl isAddr s14 rfl) ?_; refine Hid.out ?_)
  refine Hid.mk ?_
  rcases Bool.eq_false_or_eq_true (endsB v1 b1 v2 b2) with hb16 | hb16
  · have Hhb16 := Hid.mk hb16
    clear hb16
    have HV2 := Hid.mk (ends_iff.1 Hhb16.out)
    have HV3 : Hid (validF v1 b2 = true) := Hid.mk (by rw [HV2.out.2.2]; exact HV2.out.2.1)
    have HC17 : Hid (Calls Tryd.prog 35 #[.agg (SC 17 (adV v1 b1)), .agg (SC 17 (adV v2 b2))] w9 fun e w' => e = .returned (.bool true) ∧ Below w9.heap.size w9 w') := Hid.mk (by have h := rends_run v1 b1 v2 b2 w9; rw [Hhb16.out] at h; exact h)
    go_wp2_with (refine wl_cal en_aditref15_ends HC17 rfl rfl (args2 rfl rfl) ?_; intro w18 hB18; refine Hid.out ?_)
    refine Hid.mk ?_
    clear HC17
    have s19 := s13.kept hB18
    clear s13
    have s20 := s14.kept hB18
    clear s14
    have s21 := s9.kept hB18
    clear s9
    have hbt22 := hbt15.trans (hB18.mono hbt15.size)
    clear hbt15
    clear hB18
    go_wp2_with (refine wl_value rfl (exec_lenS rfl rfl) ?_; refine Hid.out ?_)
    refine Hid.mk ?_
    rcases Bool.eq_false_or_eq_true (decide ((b.size : Int) < 8)) with hb23 | hb23
    · have Hhb23 := Hid.mk hb23
      clear hb23
      have HDhb23 := Hid.mk (of_decide_eq_true Hhb23.out)
      go_wp2_with (refine wl_value rfl (kn_ (c := true) Hhb23 (cmp_lt (m := (b.size : Int)) (n := 8) rfl rfl rfl)) ?_; refine Hid.out ?_)
      refine Hid.mk ?_
      go_wp2_with (refine wl_value rfl (exec_bdMs0 rfl) ?_; refine Hid.out ?_)
      refine Hid.mk ?_
      go_wp2_with (refine st_stO (V := msV ms0) (g := g9) rfl rfl isMs (msV_one _) s21 rfl rfl ?_; intro w24 s24 ho24; refine Hid.out ?_)
      refine Hid.mk ?_
      clear s21
      have s25 := s19.only ho24 hn10
      clear s19
      have s26 := s20.only ho24 hn11
      clear s20
      have hbt27 := hbt22.trans (ho24.below hz12)
      clear hbt22
      clear ho24
      go_wp2_with fail
      have hE : mRdE v1 b1 v2 b2 b = 70 := by unfold mRdE; rw [if_pos Hhb16.out, if_pos (by have := HS.out; have := HZ0.out; have := HDhb23.out; omega)]
      have hM : mRdM v1 b1 v2 b2 b = ms0 := by unfold mRdM; rw [if_neg (by rw [hE]; decide)]
      refine bodyPost_ret (res_ct rfl isMs s24 (by rfl) (by rfl)) rfl ?_
      exact ⟨Eq.trans (rfl : _ = Ending.returned (.tuple #[.agg (SC 4 (msV ms0)), .int .i64 70])) (by rw [← HRV.out, hE, hM]), hbt27⟩
    · have Hhb23 := Hid.mk hb23
      clear hb23
      have HDhb23 := Hid.mk (of_decide_eq_false Hhb23.out)
      go_wp2_with (refine wl_value rfl (kn_ (c := false) Hhb23 (cmp_lt (m := (b.size : Int)) (n := 8) rfl rfl rfl)) ?_; refine Hid.out ?_)
      refine Hid.mk ?_
      go_wp2_with (refine wl_value rfl (exec_lenS rfl rfl) ?_; refine Hid.out ?_)
      refine Hid.mk ?_
      rcases Bool.eq_false_or_eq_true (decide (65515 < (b.size : Int))) with hb28 | hb28
      · have Hhb28 := Hid.mk hb28
        clear hb28
        have HDhb28 := Hid.mk (of_decide_eq_true Hhb28.out)
        go_wp2_with (refine wl_value rfl (kn_ (c := true) Hhb28 (cmp_gt (m := (b.size : Int)) (n := 65515) rfl rfl rfl)) ?_; refine Hid.out ?_)
        refine Hid.mk ?_
        go_wp2_with (refine wl_value rfl (exec_bdMs0 rfl) ?_; refine Hid.out ?_)
        refine Hid.mk ?_
        go_wp2_with (refine st_stO (V := msV ms0) (g := g9) rfl rfl isMs (msV_one _) s21 rfl rfl ?_; intro w29 s29 ho29; refine Hid.out ?_)
        refine Hid.mk ?_
        clear s21
        have s30 := s19.only ho29 hn10
        clear s19
        have s31 := s20.only ho29 hn11
        clear s20
        have hbt32 := hbt22.trans (ho29.below hz12)
        clear hbt22
        clear ho29
        go_wp2_with fail
        have hE : mRdE v1 b1 v2 b2 b = 73 := by unfold mRdE; rw [if_pos Hhb16.out, if_neg (by have := HS.out; have := HZ0.out; have := HDhb23.out; have := HDhb28.out; omega), if_pos (Or.inl (by have := HS.out; have := HZ0.out; have := HDhb23.out; have := HDhb28.out; omega))]
        have hM : mRdM v1 b1 v2 b2 b = ms0 := by unfold mRdM; rw [if_neg (by rw [hE]; decide)]
        refine bodyPost_ret (res_ct rfl isMs s29 (by rfl) (by rfl)) rfl ?_
        exact ⟨Eq.trans (rfl : _ = Ending.returned (.tuple #[.agg (SC 4 (msV ms0)), .int .i64 73])) (by rw [← HRV.out, hE, hM]), hbt32⟩
      · have Hhb28 := Hid.mk hb28
        clear hb28
        have HDhb28 := Hid.mk (of_decide_eq_false Hhb28.out)
        go_wp2_with (refine wl_value rfl (kn_ (c := false) Hhb28 (cmp_gt (m := (b.size : Int)) (n := 65515) rfl rfl rfl)) ?_; refine Hid.out ?_)
        refine Hid.mk ?_
        have HZ33 : Hid (getN (txt b) 2 2 < 256 ^ 2) := Hid.mk (getN_lt (fun j => txt_b b j) 2 2)
        have HZ34 : Hid (getN (txt b) 2 2 < 65536) := Hid.mk HZ33.out
        have HC35 : Hid (Calls Tryd.prog 39 #[.string b, .int .i64 2, .int .i64 2] w18 fun e w' => e = .returned (.tuple #[.int .u64 ((getN (txt b) 2 2 : Nat) : Int), .bool true]) ∧ Below w18.heap.size w18 w') := Hid.mk (rGet_run b 2 2 w18 (by have := HS.out; have := HZ0.out; have := HDhb23.out; have := HDhb28.out; have := HZ34.out; omega) (by decide) (by decide) (by have := HS.out; have := HZ0.out; have := HDhb23.out; have := HDhb28.out; have := HZ34.out; omega))
        go_wp2_with (refine wl_cal en_aditref12_Get HC35 rfl rfl (args3 rfl rfl rfl) ?_; intro w36 hB36; refine Hid.out ?_)
        refine Hid.mk ?_
        clear HC35
        have s37 := s19.kept hB36
        clear s19
        have s38 := s20.kept hB36
        clear s20
        have s39 := s21.kept hB36
        clear s21
        have hbt40 := hbt22.trans (hB36.mono hbt22.size)
        clear hbt22
        clear hB36
        have HZ41 := Hid.mk (cutP_size b 0 2 (by have := HS.out; have := HZ0.out; have := HDhb23.out; have := HDhb28.out; have := HZ34.out; omega))
        have HZ42 := Hid.mk (ByteArray.size_append (a := (b.extract 0 2)) (b := (⟨#[0, 0]⟩)))
        have HZ43 := Hid.mk (cutP_size b 4 b.size (by have := HS.out; have := HZ0.out; have := HDhb23.out; have := HDhb28.out; have := HZ34.out; have := HZ41.out; have := HZ42.out; omega))
        have HZ44 := Hid.mk (ByteArray.size_append (a := ((b.extract 0 2) ++ (⟨#[0, 0]⟩))) (b := (b.extract 4 b.size)))
        have HZ45 := Hid.mk (sumT_b (psH v1 b1 b2 T.size ++ T))
        have HZ46 : Hid (T.size = (((b.extract 0 2) ++ (⟨#[0, 0]⟩)) ++ (b.extract 4 b.size)).size) := Hid.mk (by rw [HT.out])
        go_upto_region 9 with fail
        refine wp_region_cut 11 rfl (by kernel_rfl) (any_steps (Below w36.heap.size w36) (fun v v' => Below v.heap.size v v') (fun j vv _ => vv = ([.agg (SC 17 (adV v1 b1)), .agg (SC 17 (adV v2 b2)), .string b, .string (b.extract 0 2), .string ((b.extract 0 2) ++ (⟨#[0, 0]⟩)), .string b, .string (b.extract 4 b.size), .string (((b.extract 0 2) ++ (⟨#[0, 0]⟩)) ++ (b.extract 4 b.size)), .int .i64 (sumT (psH v1 b1 b2 T.size ++ T)), .int .u64 ((getN (txt b) 2 2 : Nat) : Int), .int .i64 ((getN (txt b) 2 2 : Nat) : Int)] : List Value).getD j undef)
            [32, 33, 34, 35, 36, 37, 38, 39, 40, 41, 42]
            [(3, .pointer (some ⟨g1, 0, none⟩)), (4, .pointer (some ⟨g4, 0, none⟩)), (2, .string b), (9, .int .u64 ((getN (txt b) 2 2 : Nat) : Int))]
            [[], [], [], [2], [3], [], [5], [4, 6], [0, 1, 7], [], [9]]
            (by kernel_rfl) ⟨rfl, rfl, rfl, rfl, trivial⟩ (Below.drew (Below.refl _ _)) (fun v v' h hb => h.trans (hb.mono h.size)) (fun _ _ _ _ h _ => h)
            ⟨
            (fun QQ aa ww hS fr kn => ⟨trivial, fun K hK => wp_value (look_st rfl isAddr (SAt.kept s37 hS) fr.1) (hK _ _ rfl (Below.refl _ _))⟩),
            (fun QQ aa ww hS fr kn => ⟨trivial, fun K hK => wp_value (look_st rfl isAddr (SAt.kept s38 hS) fr.2.1) (hK _ _ rfl (Below.refl _ _))⟩),
            (fun QQ aa ww hS fr kn => ⟨trivial, fun K hK => wp_value (exec_move rfl fr.2.2.1) (hK _ _ rfl (Below.refl _ _))⟩),
            (fun QQ aa ww hS fr kn => ⟨trivial, fun K hK => wp_value (exec_slH (v := .string b) (u := .int .i64 (2 : Nat)) rfl kn.1 rfl (strH b 2 _ (by have := HS.out; have := HZ0.out; have := HDhb23.out; have := HDhb28.out; have := HZ34.out; omega))) (hK _ _ rfl (Below.refl _ _))⟩),
            (fun QQ aa ww hS fr kn => ⟨trivial, fun K hK => wp_value (exec_catS (s := (b.extract 0 2)) (t := (⟨#[0, 0]⟩)) rfl kn.1 rfl (by have := HS.out; have := HZ0.out; have := HDhb23.out; have := HDhb28.out; have := HZ34.out; have := HZ41.out; omega)) (hK _ _ rfl (Below.refl _ _))⟩),
            (fun QQ aa ww hS fr kn => ⟨trivial, fun K hK => wp_value (exec_move rfl fr.2.2.1) (hK _ _ rfl (Below.refl _ _))⟩),
            (fun QQ aa ww hS fr kn => ⟨trivial, fun K hK => wp_value (exec_slL (v := .string b) (u := .int .i64 (4 : Nat)) rfl kn.1 rfl (strL b 4 _ (by have := HS.out; have := HZ0.out; have := HDhb23.out; have := HDhb28.out; have := HZ34.out; have := HZ41.out; have := HZ42.out; omega))) (hK _ _ rfl (Below.refl _ _))⟩),
            (fun QQ aa ww hS fr kn => ⟨trivial, fun K hK => wp_value (exec_catS (s := ((b.extract 0 2) ++ (⟨#[0, 0]⟩))) (t := (b.extract 4 b.size)) rfl kn.1 kn.2.1 (by have := HS.out; have := HZ0.out; have := HDhb23.out; have := HDhb28.out; have := HZ34.out; have := HZ41.out; have := HZ42.out; have := HZ43.out; omega)) (hK _ _ rfl (Below.refl _ _))⟩),
            (fun QQ aa ww hS fr kn => ⟨trivial, fun K hK => stepc en_aditref15_check rfl (args3 kn.1 kn.2.1 kn.2.2.1) (by rw [← HV2.out.2.2, ← HT.out]; exact rcheck_run v1 b1 b2 T ww hb1 hb2 HV2.out.1 HV3.out (by have := HS.out; have := HZ0.out; have := HDhb23.out; have := HDhb28.out; have := HZ34.out; have := HZ41.out; have := HZ42.out; have := HZ43.out; have := HZ44.out; have := HZ45.out; have := HZ46.out; omega)) (fun w' hb => hK _ _ rfl hb)⟩),
            (fun QQ aa ww hS fr kn => ⟨trivial, fun K hK => wp_value (exec_move rfl fr.2.2.2.1) (hK _ _ rfl (Below.refl _ _))⟩),
            (fun QQ aa ww hS fr kn => ⟨trivial, fun K hK => wp_value (exec_cvUI (m := getN (txt b) 2 2) rfl kn.1 (by have := HS.out; have := HZ0.out; have := HDhb23.out; have := HDhb28.out; have := HZ34.out; have := HZ41.out; have := HZ42.out; have := HZ43.out; have := HZ44.out; have := HZ45.out; have := HZ46.out; omega)) (hK _ _ rfl (Below.refl _ _))⟩),
            trivial⟩ ?_)
        intro vs w47 hB47 kn
        have e40 : vs 40 = .int .i64 (sumT (psH v1 b1 b2 T.size ++ T)) := kn 8 (by decide)
        have e42 : vs 42 = .int .i64 ((getN (txt b) 2 2 : Nat) : Int) := kn 10 (by decide)
        clear kn
        show wpList Tryd.prog _ _ (_ :: []) _ _
        simp only [putAll, Act.put, List.setIfInBounds_toArray, List.set_cons_zero, List.set_cons_succ, e40, e42]
        clear e40 e42
        have s48 := s37.kept hB47
        clear s37
        have s49 := s38.kept hB47
        clear s38
        have s50 := s39.kept hB47
        clear s39
        have hbt51 := hbt40.trans (hB47.mono hbt40.size)
        clear hbt40
        clear hB47
        rcases Bool.eq_false_or_eq_true (decide (sumT (psH v1 b1 b2 T.size ++ T) = ((getN (txt b) 2 2 : Nat) : Int))) with hb52 | hb52
        · have Hhb52 := Hid.mk hb52
          clear hb52
          have HDhb52 := Hid.mk (of_decide_eq_true Hhb52.out)
          go_wp2_with (refine wl_value rfl (kn_n (c := false) Hhb52 (cmp_ne (m := sumT (psH v1 b1 b2 T.size ++ T)) (n := ((getN (txt b) 2 2 : Nat) : Int)) rfl rfl rfl)) ?_; refine Hid.out ?_)
          refine Hid.mk ?_
          have HZ53 : Hid (getN (txt b) 4 4 < 256 ^ 4) := Hid.mk (getN_lt (fun j => txt_b b j) 4 4)
          have HZ54 : Hid (getN (txt b) 4 4 < 4294967296) := Hid.mk HZ53.out
          have HC55 : Hid (Calls Tryd.prog 39 #[.string b, .int .i64 4, .int .i64 4] w47 fun e w' => e = .returned (.tuple #[.int .u64 ((getN (txt b) 4 4 : Nat) : Int), .bool true]) ∧ Below w47.heap.size w47 w') := Hid.mk (rGet_run b 4 4 w47 (by have := HS.out; have := HZ0.out; have := HDhb23.out; have := HDhb28.out; have := HZ34.out; have := HZ41.out; have := HZ42.out; have := HZ43.out; have := HZ44.out; have := HZ45.out; have := HZ46.out; have := HDhb52.out; have := HZ54.out; omega) (by decide) (by decide) (by have := HS.out; have := HZ0.out; have := HDhb23.out; have := HDhb28.out; have := HZ34.out; have := HZ41.out; have := HZ42.out; have := HZ43.out; have := HZ44.out; have := HZ45.out; have := HZ46.out; have := HDhb52.out; have := HZ54.out; omega))
          go_wp2_with (refine wl_cal en_aditref12_Get HC55 rfl rfl (args3 rfl rfl rfl) ?_; intro w56 hB56; refine Hid.out ?_)
          refine Hid.mk ?_
          clear HC55
          have s57 := s48.kept hB56
          clear s48
          have s58 := s49.kept hB56
          clear s49
          have s59 := s50.kept hB56
          clear s50
          have hbt60 := hbt51.trans (hB56.mono hbt51.size)
          clear hbt51
          clear hB56
          have HU61 := Hid.mk (txt_b b 0)
          have HU62 := Hid.mk (txt_b b 1)
          have HZ63 := Hid.mk (cutP_size b 8 b.size (by have := HS.out; have := HZ0.out; have := HDhb23.out; have := HDhb28.out; have := HZ34.out; have := HZ41.out; have := HZ42.out; have := HZ43.out; have := HZ44.out; have := HZ45.out; have := HZ46.out; have := HDhb52.out; have := HZ54.out; have := HU61.out; have := HU62.out; omega))
          go_upto_region 12 with fail
          refine wp_region_cut 10 rfl (by kernel_rfl) (any_steps (Below w56.heap.size w56) (fun v v' => Below v.heap.size v v') (fun j vv _ => vv = ([.string b, .int .u8 (txt b 0), .int .i64 (txt b 0), .string b, .int .u8 (txt b 1), .int .i64 (txt b 1), .int .u64 ((getN (txt b) 4 4 : Nat) : Int), .int .u32 ((getN (txt b) 4 4 : Nat) : Int), .string b, .string (b.extract 8 b.size)] : List Value).getD j undef)
              [50, 51, 52, 53, 54, 55, 56, 57, 58, 59]
              [(2, .string b), (11, .int .u64 ((getN (txt b) 4 4 : Nat) : Int))]
              [[], [0], [1], [], [3], [4], [], [6], [], [8]]
              (by kernel_rfl) ⟨rfl, rfl, trivial⟩ (Below.drew (Below.refl _ _)) (fun v v' h hb => h.trans (hb.mono h.size)) (fun _ _ _ _ h _ => h)
              ⟨
              (fun QQ aa ww hS fr kn => ⟨trivial, fun K hK => wp_value (exec_move rfl fr.1) (hK _ _ rfl (Below.refl _ _))⟩),
              (fun QQ aa ww hS fr kn => ⟨trivial, fun K hK => wp_value (exec_ixs (j := 0) rfl kn.1 rfl (by have := HS.out; have := HZ0.out; have := HDhb23.out; have := HDhb28.out; have := HZ34.out; have := HZ41.out; have := HZ42.out; have := HZ43.out; have := HZ44.out; have := HZ45.out; have := HZ46.out; have := HDhb52.out; have := HZ54.out; omega)) (hK _ _ rfl (Below.refl _ _))⟩),
              (fun QQ aa ww hS fr kn => ⟨trivial, fun K hK => wp_value (exec_cvW (m := txt b 0) rfl kn.1 (by have := HS.out; have := HZ0.out; have := HDhb23.out; have := HDhb28.out; have := HZ34.out; have := HZ41.out; have := HZ42.out; have := HZ43.out; have := HZ44.out; have := HZ45.out; have := HZ46.out; have := HDhb52.out; have := HZ54.out; have := HU61.out; omega) (by have := HS.out; have := HZ0.out; have := HDhb23.out; have := HDhb28.out; have := HZ34.out; have := HZ41.out; have := HZ42.out; have := HZ43.out; have := HZ44.out; have := HZ45.out; have := HZ46.out; have := HDhb52.out; have := HZ54.out; have := HU61.out; omega)) (hK _ _ rfl (Below.refl _ _))⟩),
              (fun QQ aa ww hS fr kn => ⟨trivial, fun K hK => wp_value (exec_move rfl fr.1) (hK _ _ rfl (Below.refl _ _))⟩),
              (fun QQ aa ww hS fr kn => ⟨trivial, fun K hK => wp_value (exec_ixs (j := 1) rfl kn.1 rfl (by have := HS.out; have := HZ0.out; have := HDhb23.out; have := HDhb28.out; have := HZ34.out; have := HZ41.out; have := HZ42.out; have := HZ43.out; have := HZ44.out; have := HZ45.out; have := HZ46.out; have := HDhb52.out; have := HZ54.out; have := HU61.out; omega)) (hK _ _ rfl (Below.refl _ _))⟩),
              (fun QQ aa ww hS fr kn => ⟨trivial, fun K hK => wp_value (exec_cvW (m := txt b 1) rfl kn.1 (by have := HS.out; have := HZ0.out; have := HDhb23.out; have := HDhb28.out; have := HZ34.out; have := HZ41.out; have := HZ42.out; have := HZ43.out; have := HZ44.out; have := HZ45.out; have := HZ46.out; have := HDhb52.out; have := HZ54.out; have := HU61.out; have := HU62.out; omega) (by have := HS.out; have := HZ0.out; have := HDhb23.out; have := HDhb28.out; have := HZ34.out; have := HZ41.out; have := HZ42.out; have := HZ43.out; have := HZ44.out; have := HZ45.out; have := HZ46.out; have := HDhb52.out; have := HZ54.out; have := HU61.out; have := HU62.out; omega)) (hK _ _ rfl (Below.refl _ _))⟩),
              (fun QQ aa ww hS fr kn => ⟨trivial, fun K hK => wp_value (exec_move rfl fr.2.1) (hK _ _ rfl (Below.refl _ _))⟩),
              (fun QQ aa ww hS fr kn => ⟨trivial, fun K hK => wp_value (exec_cvU32 (m := getN (txt b) 4 4) rfl kn.1 (by have := HS.out; have := HZ0.out; have := HDhb23.out; have := HDhb28.out; have := HZ34.out; have := HZ41.out; have := HZ42.out; have := HZ43.out; have := HZ44.out; have := HZ45.out; have := HZ46.out; have := HDhb52.out; have := HZ54.out; have := HU61.out; have := HU62.out; omega)) (hK _ _ rfl (Below.refl _ _))⟩),
              (fun QQ aa ww hS fr kn => ⟨trivial, fun K hK => wp_value (exec_move rfl fr.1) (hK _ _ rfl (Below.refl _ _))⟩),
              (fun QQ aa ww hS fr kn => ⟨trivial, fun K hK => wp_value (exec_slL (v := .string b) (u := .int .i64 (8 : Nat)) rfl kn.1 rfl (strL b 8 _ (by have := HS.out; have := HZ0.out; have := HDhb23.out; have := HDhb28.out; have := HZ34.out; have := HZ41.out; have := HZ42.out; have := HZ43.out; have := HZ44.out; have := HZ45.out; have := HZ46.out; have := HDhb52.out; have := HZ54.out; have := HU61.out; have := HU62.out; omega))) (hK _ _ rfl (Below.refl _ _))⟩),
              trivial⟩ ?_)
          intro vs w64 hB64 kn
          have e52 : vs 52 = .int .i64 (txt b 0) := kn 2 (by decide)
          have e55 : vs 55 = .int .i64 (txt b 1) := kn 5 (by decide)
          have e57 : vs 57 = .int .u32 ((getN (txt b) 4 4 : Nat) : Int) := kn 7 (by decide)
          have e59 : vs 59 = .string (b.extract 8 b.size) := kn 9 (by decide)
          clear kn
          show wpList Tryd.prog _ _ (_ :: _ :: _ :: []) _ _
          simp only [putAll, Act.put, List.setIfInBounds_toArray, List.set_cons_zero, List.set_cons_succ, e52, e55, e57, e59]
          clear e52 e55 e57 e59
          have s65 := s57.kept hB64
          clear s57
          have s66 := s58.kept hB64
          clear s58
          have s67 := s59.kept hB64
          clear s59
          have hbt68 := hbt60.trans (hB64.mono hbt60.size)
          clear hbt60
          clear hB64
          go_wp2_with (refine wl_value rfl (exec_bdMs ⟨txt b 0, txt b 1, getN (txt b) 4 4, b.extract 8 b.size⟩ rfl rfl rfl rfl rfl) ?_; refine Hid.out ?_)
          refine Hid.mk ?_
          go_wp2_with (refine st_stO (V := msV (⟨txt b 0, txt b 1, getN (txt b) 4 4, b.extract 8 b.size⟩)) (g := g9) rfl rfl isMs (msV_one _) s67 rfl rfl ?_; intro w69 s69 ho69; refine Hid.out ?_)
          refine Hid.mk ?_
          clear s67
          have s70 := s65.only ho69 hn10
          clear s65
          have s71 := s66.only ho69 hn11
          clear s66
          have hbt72 := hbt68.trans (ho69.below hz12)
          clear hbt68
          clear ho69
          go_wp2_with fail
          have hI := rrd (b := b) HV2.out.1 HV3.out (by have := HS.out; have := HZ0.out; have := HDhb23.out; have := HDhb28.out; have := HZ34.out; have := HZ41.out; have := HZ42.out; have := HZ43.out; have := HZ44.out; have := HZ45.out; have := HZ46.out; have := HDhb52.out; have := HZ54.out; have := HU61.out; have := HU62.out; have := HZ63.out; omega)
          rw [← HT.out] at hI
          have hE : mRdE v1 b1 v2 b2 b = 0 := by unfold mRdE; rw [if_pos Hhb16.out, if_neg (by have := HS.out; have := HZ0.out; have := HDhb23.out; have := HDhb28.out; have := HZ34.out; have := HZ41.out; have := HZ42.out; have := HZ43.out; have := HZ44.out; have := HZ45.out; have := HZ46.out; have := HDhb52.out; have := HZ54.out; have := HU61.out; have := HU62.out; have := HZ63.out; omega), if_neg (fun h => h.elim (fun h => by have := HS.out; have := HDhb23.out; have := HDhb28.out; have := HDhb52.out; have := HU61.out; have := HU62.out; omega) (fun h => h (hI.1 (of_decide_eq_true Hhb52.out))))]
          have hM : mRdM v1 b1 v2 b2 b = ⟨txt b 0, txt b 1, getN (txt b) 4 4, b.extract 8 b.size⟩ := by unfold mRdM; rw [if_pos hE]
          refine bodyPost_ret (res_ct rfl isMs s69 (by rfl) (by rfl)) rfl ?_
          exact ⟨Eq.trans (rfl : _ = Ending.returned (.tuple #[.agg (SC 4 (msV (⟨txt b 0, txt b 1, getN (txt b) 4 4, b.extract 8 b.size⟩))), .int .i64 0])) (by rw [← HRV.out, hE, hM]), hbt72⟩
        · have Hhb52 := Hid.mk hb52
          clear hb52
          have HDhb52 := Hid.mk (of_decide_eq_false Hhb52.out)
          go_wp2_with (refine wl_value rfl (kn_n (c := true) Hhb52 (cmp_ne (m := sumT (psH v1 b1 b2 T.size ++ T)) (n := ((getN (txt b) 2 2 : Nat) : Int)) rfl rfl rfl)) ?_; refine Hid.out ?_)
          refine Hid.mk ?_
          go_wp2_with (refine wl_value rfl (exec_bdMs0 rfl) ?_; refine Hid.out ?_)
          refine Hid.mk ?_
          go_wp2_with (refine st_stO (V := msV ms0) (g := g9) rfl rfl isMs (msV_one _) s50 rfl rfl ?_; intro w73 s73 ho73; refine Hid.out ?_)
          refine Hid.mk ?_
          clear s50
          have s74 := s48.only ho73 hn10
          clear s48
          have s75 := s49.only ho73 hn11
          clear s49
          have hbt76 := hbt51.trans (ho73.below hz12)
          clear hbt51
          clear ho73
          go_wp2_with fail
          have hI := rrd (b := b) HV2.out.1 HV3.out (by have := HS.out; have := HZ0.out; have := HDhb23.out; have := HDhb28.out; have := HZ34.out; have := HZ41.out; have := HZ42.out; have := HZ43.out; have := HZ44.out; have := HZ45.out; have := HZ46.out; have := HDhb52.out; omega)
          rw [← HT.out] at hI
          have hE : mRdE v1 b1 v2 b2 b = 73 := by unfold mRdE; rw [if_pos Hhb16.out, if_neg (by have := HS.out; have := HZ0.out; have := HDhb23.out; have := HDhb28.out; have := HZ34.out; have := HZ41.out; have := HZ42.out; have := HZ43.out; have := HZ44.out; have := HZ45.out; have := HZ46.out; have := HDhb52.out; omega), if_pos (Or.inr (fun h => of_decide_eq_false Hhb52.out (hI.2 h)))]
          have hM : mRdM v1 b1 v2 b2 b = ms0 := by unfold mRdM; rw [if_neg (by rw [hE]; decide)]
          refine bodyPost_ret (res_ct rfl isMs s73 (by rfl) (by rfl)) rfl ?_
          exact ⟨Eq.trans (rfl : _ = Ending.returned (.tuple #[.agg (SC 4 (msV ms0)), .int .i64 73])) (by rw [← HRV.out, hE, hM]), hbt76⟩
  · have Hhb16 := Hid.mk hb16
    clear hb16
    have HC77 : Hid (Calls Tryd.prog 35 #[.agg (SC 17 (adV v1 b1)), .agg (SC 17 (adV v2 b2))] w9 fun e w' => e = .returned (.bool false) ∧ Below w9.heap.size w9 w') := Hid.mk (by have h := rends_run v1 b1 v2 b2 w9; rw [Hhb16.out] at h; exact h)
    go_wp2_with (refine wl_cal en_aditref15_ends HC77 rfl rfl (args2 rfl rfl) ?_; intro w78 hB78; refine Hid.out ?_)
    refine Hid.mk ?_
    clear HC77
    have s79 := s13.kept hB78
    clear s13
    have s80 := s14.kept hB78
    clear s14
    have s81 := s9.kept hB78
    clear s9
    have hbt82 := hbt15.trans (hB78.mono hbt15.size)
    clear hbt15
    clear hB78
    go_wp2_with (refine wl_value rfl (exec_bdMs0 rfl) ?_; refine Hid.out ?_)
    refine Hid.mk ?_
    go_wp2_with (refine st_stO (V := msV ms0) (g := g9) rfl rfl isMs (msV_one _) s81 rfl rfl ?_; intro w83 s83 ho83; refine Hid.out ?_)
    refine Hid.mk ?_
    clear s81
    have s84 := s79.only ho83 hn10
    clear s79
    have s85 := s80.only ho83 hn11
    clear s80
    have hbt86 := hbt82.trans (ho83.below hz12)
    clear hbt82
    clear ho83
    go_wp2_with fail
    have hE : mRdE v1 b1 v2 b2 b = 1 := by unfold mRdE; rw [if_neg (by rw [Hhb16.out]; decide)]
    have hM : mRdM v1 b1 v2 b2 b = ms0 := by unfold mRdM; rw [if_neg (by rw [hE]; decide)]
    refine bodyPost_ret (res_ct rfl isMs s83 (by rfl) (by rfl)) rfl ?_
    exact ⟨Eq.trans (rfl : _ = Ending.returned (.tuple #[.agg (SC 4 (msV ms0)), .int .i64 1])) (by rw [← HRV.out, hE, hM]), hbt86⟩
end Go.Proofs.YtojekoakgpkkdaaDoor

/-
  Own text. The document's side: a packet's message, packets of messages, echoes.
-/
namespace Go.Proofs.YtojekoakgpkkdaaDoor
open Go.RowKit Go.Proofs
set_option maxRecDepth 100000
theorem en_aditref13_Right (args : Array Value) (w : World) : (callFunc 71 args).run Tryd.prog w = .ok (.enter 71 args) w := by kernel_rfl
theorem en_aditref15_proto (args : Array Value) (w : World) : (callFunc 72 args).run Tryd.prog w = .ok (.enter 72 args) w := by kernel_rfl
theorem en_aditref15_Parse (args : Array Value) (w : World) : (callFunc 12 args).run Tryd.prog w = .ok (.enter 12 args) w := by kernel_rfl
theorem en_aditref15_message (args : Array Value) (w : World) : (callFunc 44 args).run Tryd.prog w = .ok (.enter 44 args) w := by kernel_rfl
theorem rgt_off {P : Pk} (h : rgtP P = true) : 0 ≤ P.off := by
  unfold rgtP at h
  simp only [Bool.and_eq_true] at h
  exact (upB_iff.1 h.1.1.2).1
theorem off_eq {P : Pk} (h : rgtP P = true) : decide (P.off = 0) = !decide (0 < P.off) := by
  have := rgt_off h
  by_cases e : P.off = 0
  · rw [decide_eq_true e, decide_eq_false (by omega)]; rfl
  · rw [decide_eq_false e, decide_eq_true (by omega)]; rfl
set_option linter.unusedSimpArgs false in
set_option maxHeartbeats 4000000 in
theorem dproto_true (w : World) : Calls Tryd.prog 72 #[.bool true] w fun e w' => e = .returned (.int .i64 (protoK true)) ∧ Below w.heap.size w w' := by
  generalize hRV : (.int .i64 (protoK true) : Value) = RV
  have HRV := Hid.mk hRV
  clear hRV
  go_enter Tryd.func72, Tryd.ntmps72
  go_wp2_with fail
  go_ret
  exact ⟨Eq.trans (rfl : _ = Ending.returned (.int .i64 58)) (by rw [← HRV.out] <;> rfl), (Below.refl _ _)⟩
set_option linter.unusedSimpArgs false in
set_option maxHeartbeats 4000000 in
theorem dproto_false (w : World) : Calls Tryd.prog 72 #[.bool false] w fun e w' => e = .returned (.int .i64 (protoK false)) ∧ Below w.heap.size w w' := by
  generalize hRV : (.int .i64 (protoK false) : Value) = RV
  have HRV := Hid.mk hRV
  clear hRV
  go_enter Tryd.func72, Tryd.ntmps72
  go_wp2_with fail
  go_ret
  exact ⟨Eq.trans (rfl : _ = Ending.returned (.int .i64 1)) (by rw [← HRV.out] <;> rfl), (Below.refl _ _)⟩
theorem dproto_run (v : Bool) (w : World) : Calls Tryd.prog 72 #[.bool v] w fun e w' => e = .returned (.int .i64 (protoK v)) ∧ Below w.heap.size w w' := by
  cases v
  · exact dproto_false w
  · exact dproto_true w
set_option linter.unusedSimpArgs false in
set_option maxHeartbeats 4000000 in
theorem dmsg_run (P : Pk) (vx : Value) (w : World) (hx : ExAt w vx P.exts) (hp : PkB P) : Calls Tryd.prog 44 #[.agg (SC 46 (pkV P vx))] w fun e w' => e = .returned (.tuple #[.agg (SC 4 (msV (msgM P))), .bool (msgB P)]) ∧ Below w.heap.size w w' := by
  generalize hRV : (.tuple #[.agg (SC 4 (msV (msgM P))), .bool (msgB P)] : Value) = RV
  have HRV := Hid.mk hRV
  clear hRV
  have HX := Hid.mk hx
  have HP := Hid.mk hp
  clear hx hp
  go_enter Tryd.func44, Tryd.ntmps44
  go_wp2_with (refine wl_boxO (V := pkV P vx) rfl rfl isPk rfl ?_; intro g1 w1 hg1 s1 hB1; refine Hid.out ?_)
  refine Hid.mk ?_
  have hz2 : w.heap.size ≤ g1 := by omega
  have hbt3 := hB1
  clear hB1 hg1
  go_wp2_with (refine wl_alO (V := msV ms0) rfl rfl zeroMs ?_; intro g4 w4 hg4 s4 hB4; refine Hid.out ?_)
  refine Hid.mk ?_
  have hn5 : g1 ≠ g4 := by have := s1.lt; omega
  have hz6 : w.heap.size ≤ g4 := by have := hbt3.size; omega
  have s7 := s1.kept hB4
  clear s1
  have hbt8 := hbt3.trans (hB4.mono hbt3.size)
  clear hbt3
  clear hB4 hg4
  go_wp2_with (refine wl_value rfl (look_st rfl isPk s7 rfl) ?_; refine Hid.out ?_)
  refine Hid.mk ?_
  rcases Bool.eq_false_or_eq_true (rgtP P) with hb9 | hb9
  · have Hhb9 := Hid.mk hb9
    clear hb9
    have HC10 : Hid (Calls Tryd.prog 71 #[.agg (SC 46 (pkV P vx))] w4 fun e w' => e = .returned (.bool true) ∧ Below w4.heap.size w4 w') := Hid.mk (by have h := rRight_run P vx w4 (ExAt.kept HX.out hbt8) HP.out.ne HP.out.be; rw [Hhb9.out] at h; exact h)
    go_wp2_with (refine wl_cal en_aditref13_Right HC10 rfl rfl (args1 rfl) ?_; intro w11 hB11; refine Hid.out ?_)
    refine Hid.mk ?_
    clear HC10
    have s12 := s7.kept hB11
    clear s7
    have s13 := s4.kept hB11
    clear s4
    have hbt14 := hbt8.trans (hB11.mono hbt8.size)
    clear hbt8
    clear hB11
    rcases Bool.eq_false_or_eq_true (P.more) with hb15 | hb15
    · have Hhb15 := Hid.mk hb15
      clear hb15
      go_upto_region 2 with fail
      refine wp_region3 (Below w11.heap.size w11) w11.heap.size
          ([] : List (Nat × Cont))
          [kv (.bool true), kv (.bool false), kv (.bool false), kv (.pointer (some ⟨g1, 39, none⟩)), kv (.bool true), kv (.bool true), kv (.bool true), kv (undef), kv (undef), kv (undef), kv (.bool true), kv (.bool true), kv (undef), kv (undef), kv (undef), kv (undef), kv (undef), kv (undef), kv (undef), kv (.bool true)]
          [.none, .none, .none, .none, .none, .none, .none, .none, .none, .none, .none, .none, .none, .none, .none, .none, .none, .none, .none, .none]
          [some 9, some 10, some 11, some 12, some 13, some 14, some 15, some 16, some 17, some 18, some 19, some 20, some 21, some 22, some 23, some 24, some 25, some 26, some 27, some 28]
          [(4, .bool true), (1, .pointer (some ⟨g1, 0, none⟩))]
          [[], [.slot 0], [.slot 1], [.slot 2], [.slot 2, .slot 3], [.slot 2, .slot 4], [.slot 5], [.slot 6], [.slot 6], [.slot 6], [.slot 6, .slot 9], [.slot 10], [.slot 11], [.slot 11], [.slot 11], [.slot 11], [.slot 11], [.slot 11], [.slot 11], [.slot 11, .slot 18]]
          [.slot 19] [9, 10, 11, 12, 13, 14, 15, 16, 17, 18, 19, 20, 21, 22, 23, 24, 25, 26, 27, 28]
          rfl (by kernel_rfl) ⟨rfl, rfl, trivial⟩ ((Below.refl _ w11).drew) (Nat.le_refl _) trivial trivial (below_GcW (Nat.le_refl _))
          ⟨
          (fun QQ aa ww own hS hBg fr kn => .inl ⟨trivial, fun K hK => wp_value (exec_move rfl fr.1) (hK _ _ ⟨Touch.refl _ _, rfl⟩)⟩),
          (fun QQ aa ww own hS hBg fr kn => .inl ⟨trivial, fun K hK => wp_value (exec_notB rfl kn.1) (hK _ _ ⟨Touch.refl _ _, rfl⟩)⟩),
          (fun QQ aa ww own hS hBg fr kn => .inl ⟨trivial, fun K hK => wp_value (exec_move rfl kn.1) (hK _ _ ⟨Touch.refl _ _, rfl⟩)⟩),
          (fun QQ aa ww own hS hBg fr kn => .inl ⟨kn.1, fun K hK => wp_value (exec_fpk 7 (by decide) rfl fr.2.1) (hK _ _ ⟨Touch.refl _ _, rfl⟩)⟩),
          (fun QQ aa ww own hS hBg fr kn => .inl ⟨kn.1, fun K hK => wp_value (kn_ (c := true) Hhb15 (exec_ld rfl kn.2.1 (ldPb (pk_more (SAt.kept s12 hS))))) (hK _ _ ⟨Touch.refl _ _, rfl⟩)⟩),
          (fun QQ aa ww own hS hBg fr kn => .inl ⟨trivial, fun K hK => wp_value (exec_pickF (v := .bool true) rfl kn.1 kn.2.1) (hK _ _ ⟨Touch.refl _ _, rfl⟩)⟩),
          (fun QQ aa ww own hS hBg fr kn => .inl ⟨trivial, fun K hK => wp_value (exec_move rfl kn.1) (hK _ _ ⟨Touch.refl _ _, rfl⟩)⟩),
          (fun QQ aa ww own hS hBg fr kn => .inr ⟨.inl kn.1, Touch.refl _ _, rfl⟩),
          (fun QQ aa ww own hS hBg fr kn => .inr ⟨.inl kn.1, Touch.refl _ _, rfl⟩),
          (fun QQ aa ww own hS hBg fr kn => .inr ⟨.inl kn.1, Touch.refl _ _, rfl⟩),
          (fun QQ aa ww own hS hBg fr kn => .inl ⟨trivial, fun K hK => wp_value (exec_pick (v := .bool true) rfl kn.1 rfl) (hK _ _ ⟨Touch.refl _ _, rfl⟩)⟩),
          (fun QQ aa ww own hS hBg fr kn => .inl ⟨trivial, fun K hK => wp_value (exec_move rfl kn.1) (hK _ _ ⟨Touch.refl _ _, rfl⟩)⟩),
          (fun QQ aa ww own hS hBg fr kn => .inr ⟨.inl kn.1, Touch.refl _ _, rfl⟩),
          (fun QQ aa ww own hS hBg fr kn => .inr ⟨.inl kn.1, Touch.refl _ _, rfl⟩),
          (fun QQ aa ww own hS hBg fr kn => .inr ⟨.inl kn.1, Touch.refl _ _, rfl⟩),
          (fun QQ aa ww own hS hBg fr kn => .inr ⟨.inl kn.1, Touch.refl _ _, rfl⟩),
          (fun QQ aa ww own hS hBg fr kn => .inr ⟨.inl kn.1, Touch.refl _ _, rfl⟩),
          (fun QQ aa ww own hS hBg fr kn => .inr ⟨.inl kn.1, Touch.refl _ _, rfl⟩),
          (fun QQ aa ww own hS hBg fr kn => .inr ⟨.inl kn.1, Touch.refl _ _, rfl⟩),
          (fun QQ aa ww own hS hBg fr kn => .inl ⟨trivial, fun K hK => wp_value (exec_pick (v := .bool true) rfl kn.1 rfl) (hK _ _ ⟨Touch.refl _ _, rfl⟩)⟩),
          trivial⟩ ?_
      intro vs own w16 hB16 hsz kn inj
      have e28 : vs 28 = .bool true := kn.1
      clear kn inj hsz
      simp only [putAll, Act.put, List.setIfInBounds_toArray, List.set_cons_zero, List.set_cons_succ, e28]
      clear e28
      have s17 := s12.kept hB16
      clear s12
      have s18 := s13.kept hB16
      clear s13
      have hbt19 := hbt14.trans (hB16.mono hbt14.size)
      clear hbt14
      clear hB16
      go_wp2_with (refine wl_value rfl (exec_bdMs0 rfl) ?_; refine Hid.out ?_)
      refine Hid.mk ?_
      go_wp2_with (refine st_stO (V := msV ms0) (g := g4) rfl rfl isMs (msV_one _) s18 rfl rfl ?_; intro w20 s20 ho20; refine Hid.out ?_)
      refine Hid.mk ?_
      clear s18
      have s21 := s17.only ho20 hn5
      clear s17
      have hbt22 := hbt19.trans (ho20.below hz6)
      clear hbt19
      clear ho20
      go_wp2_with fail
      have hC : msgC P = false := by unfold msgC; rw [off_eq Hhb9.out]; (try simp only [Hhb9.out]) <;> simp [Hhb9.out, Hhb15.out]
      have hB : msgB P = false := by unfold msgB; rw [hC]; rfl
      have hM : msgM P = ms0 := by unfold msgM; rw [if_neg (by rw [hC]; decide)]
      refine bodyPost_ret (res_ct rfl isMs s20 (by rfl) (by rfl)) rfl ?_
      exact ⟨Eq.trans (rfl : _ = Ending.returned (.tuple #[.agg (SC 4 (msV ms0)), .bool false])) (by rw [← HRV.out, hB, hM]), hbt22⟩
    · have Hhb15 := Hid.mk hb15
      clear hb15
      rcases Bool.eq_false_or_eq_true (decide (0 < P.off)) with hb23 | hb23
      · have Hhb23 := Hid.mk hb23
        clear hb23
        have HDhb23 := Hid.mk (of_decide_eq_true Hhb23.out)
        go_upto_region 2 with fail
        refine wp_region3 (Below w11.heap.size w11) w11.heap.size
            ([] : List (Nat × Cont))
            [kv (.bool true), kv (.bool false), kv (.bool false), kv (.pointer (some ⟨g1, 39, none⟩)), kv (.bool false), kv (.bool false), kv (.bool false), kv (.pointer (some ⟨g1, 38, none⟩)), kv (.int .i64 P.off), kv (.bool true), kv (.bool true), kv (.bool true), kv (undef), kv (undef), kv (undef), kv (undef), kv (undef), kv (undef), kv (undef), kv (.bool true)]
            [.none, .none, .none, .none, .none, .none, .none, .none, .none, .none, .none, .none, .none, .none, .none, .none, .none, .none, .none, .none]
            [some 9, some 10, some 11, some 12, some 13, some 14, some 15, some 16, some 17, some 18, some 19, some 20, some 21, some 22, some 23, some 24, some 25, some 26, some 27, some 28]
            [(4, .bool true), (1, .pointer (some ⟨g1, 0, none⟩))]
            [[], [.slot 0], [.slot 1], [.slot 2], [.slot 2, .slot 3], [.slot 2, .slot 4], [.slot 5], [.slot 6], [.slot 6, .slot 7], [.slot 6, .slot 8], [.slot 6, .slot 9], [.slot 10], [.slot 11], [.slot 11], [.slot 11], [.slot 11], [.slot 11], [.slot 11], [.slot 11], [.slot 11, .slot 18]]
            [.slot 19] [9, 10, 11, 12, 13, 14, 15, 16, 17, 18, 19, 20, 21, 22, 23, 24, 25, 26, 27, 28]
            rfl (by kernel_rfl) ⟨rfl, rfl, trivial⟩ ((Below.refl _ w11).drew) (Nat.le_refl _) trivial trivial (below_GcW (Nat.le_refl _))
            ⟨
            (fun QQ aa ww own hS hBg fr kn => .inl ⟨trivial, fun K hK => wp_value (exec_move rfl fr.1) (hK _ _ ⟨Touch.refl _ _, rfl⟩)⟩),
            (fun QQ aa ww own hS hBg fr kn => .inl ⟨trivial, fun K hK => wp_value (exec_notB rfl kn.1) (hK _ _ ⟨Touch.refl _ _, rfl⟩)⟩),
            (fun QQ aa ww own hS hBg fr kn => .inl ⟨trivial, fun K hK => wp_value (exec_move rfl kn.1) (hK _ _ ⟨Touch.refl _ _, rfl⟩)⟩),
            (fun QQ aa ww own hS hBg fr kn => .inl ⟨kn.1, fun K hK => wp_value (exec_fpk 7 (by decide) rfl fr.2.1) (hK _ _ ⟨Touch.refl _ _, rfl⟩)⟩),
            (fun QQ aa ww own hS hBg fr kn => .inl ⟨kn.1, fun K hK => wp_value (kn_ (c := false) Hhb15 (exec_ld rfl kn.2.1 (ldPb (pk_more (SAt.kept s12 hS))))) (hK _ _ ⟨Touch.refl _ _, rfl⟩)⟩),
            (fun QQ aa ww own hS hBg fr kn => .inl ⟨trivial, fun K hK => wp_value (exec_pickF (v := .bool false) rfl kn.1 kn.2.1) (hK _ _ ⟨Touch.refl _ _, rfl⟩)⟩),
            (fun QQ aa ww own hS hBg fr kn => .inl ⟨trivial, fun K hK => wp_value (exec_move rfl kn.1) (hK _ _ ⟨Touch.refl _ _, rfl⟩)⟩),
            (fun QQ aa ww own hS hBg fr kn => .inl ⟨kn.1, fun K hK => wp_value (exec_fpk 6 (by decide) rfl fr.2.1) (hK _ _ ⟨Touch.refl _ _, rfl⟩)⟩),
            (fun QQ aa ww own hS hBg fr kn => .inl ⟨kn.1, fun K hK => wp_value (exec_ld rfl kn.2.1 (ldP (pk_off (SAt.kept s12 hS)))) (hK _ _ ⟨Touch.refl _ _, rfl⟩)⟩),
            (fun QQ aa ww own hS hBg fr kn => .inl ⟨kn.1, fun K hK => wp_value (kn_ (c := true) Hhb23 (cmp_gt (m := P.off) (n := 0) rfl kn.2.1 rfl)) (hK _ _ ⟨Touch.refl _ _, rfl⟩)⟩),
            (fun QQ aa ww own hS hBg fr kn => .inl ⟨trivial, fun K hK => wp_value (exec_pickF (v := .bool true) rfl kn.1 kn.2.1) (hK _ _ ⟨Touch.refl _ _, rfl⟩)⟩),
            (fun QQ aa ww own hS hBg fr kn => .inl ⟨trivial, fun K hK => wp_value (exec_move rfl kn.1) (hK _ _ ⟨Touch.refl _ _, rfl⟩)⟩),
            (fun QQ aa ww own hS hBg fr kn => .inr ⟨.inl kn.1, Touch.refl _ _, rfl⟩),
            (fun QQ aa ww own hS hBg fr kn => .inr ⟨.inl kn.1, Touch.refl _ _, rfl⟩),
            (fun QQ aa ww own hS hBg fr kn => .inr ⟨.inl kn.1, Touch.refl _ _, rfl⟩),
            (fun QQ aa ww own hS hBg fr kn => .inr ⟨.inl kn.1, Touch.refl _ _, rfl⟩),
            (fun QQ aa ww own hS hBg fr kn => .inr ⟨.inl kn.1, Touch.refl _ _, rfl⟩),
            (fun QQ aa ww own hS hBg fr kn => .inr ⟨.inl kn.1, Touch.refl _ _, rfl⟩),
            (fun QQ aa ww own hS hBg fr kn => .inr ⟨.inl kn.1, Touch.refl _ _, rfl⟩),
            (fun QQ aa ww own hS hBg fr kn => .inl ⟨trivial, fun K hK => wp_value (exec_pick (v := .bool true) rfl kn.1 rfl) (hK _ _ ⟨Touch.refl _ _, rfl⟩)⟩),
            trivial⟩ ?_
        intro vs own w24 hB24 hsz kn inj
        have e28 : vs 28 = .bool true := kn.1
        clear kn inj hsz
        simp only [putAll, Act.put, List.setIfInBounds_toArray, List.set_cons_zero, List.set_cons_succ, e28]
        clear e28
        have s25 := s12.kept hB24
        clear s12
        have s26 := s13.kept hB24
        clear s13
        have hbt27 := hbt14.trans (hB24.mono hbt14.size)
        clear hbt14
        clear hB24
        go_wp2_with (refine wl_value rfl (exec_bdMs0 rfl) ?_; refine Hid.out ?_)
        refine Hid.mk ?_
        go_wp2_with (refine st_stO (V := msV ms0) (g := g4) rfl rfl isMs (msV_one _) s26 rfl rfl ?_; intro w28 s28 ho28; refine Hid.out ?_)
        refine Hid.mk ?_
        clear s26
        have s29 := s25.only ho28 hn5
        clear s25
        have hbt30 := hbt27.trans (ho28.below hz6)
        clear hbt27
        clear ho28
        go_wp2_with fail
        have hC : msgC P = false := by unfold msgC; rw [off_eq Hhb9.out]; (try simp only [Hhb9.out, Hhb23.out]) <;> simp [Hhb9.out, Hhb23.out, Hhb15.out]
        have hB : msgB P = false := by unfold msgB; rw [hC]; rfl
        have hM : msgM P = ms0 := by unfold msgM; rw [if_neg (by rw [hC]; decide)]
        refine bodyPost_ret (res_ct rfl isMs s28 (by rfl) (by rfl)) rfl ?_
        exact ⟨Eq.trans (rfl : _ = Ending.returned (.tuple #[.agg (SC 4 (msV ms0)), .bool false])) (by rw [← HRV.out, hB, hM]), hbt30⟩
      · have Hhb23 := Hid.mk hb23
        clear hb23
        have HDhb23 := Hid.mk (of_decide_eq_false Hhb23.out)
        rcases Bool.eq_false_or_eq_true (P.sv) with hb31 | hb31
        · have Hhb31 := Hid.mk hb31
          clear hb31
          rcases Bool.eq_false_or_eq_true (decide (P.proto = protoK true)) with hb32 | hb32
          · have Hhb32 := Hid.mk hb32
            clear hb32
            have HDhb32 := Hid.mk (of_decide_eq_true Hhb32.out)
            go_upto_region 2 with fail
            refine wp_region3 (Below w11.heap.size w11) w11.heap.size
                ([] : List (Nat × Cont))
                [kv (.bool true), kv (.bool false), kv (.bool false), kv (.pointer (some ⟨g1, 39, none⟩)), kv (.bool false), kv (.bool false), kv (.bool false), kv (.pointer (some ⟨g1, 38, none⟩)), kv (.int .i64 P.off), kv (.bool false), kv (.bool false), kv (.bool false), kv (.pointer (some ⟨g1, 34, none⟩)), kv (.int .i64 P.proto), kv (.pointer (some ⟨g1, 0, none⟩)), kv (.pointer (some ⟨g1, 0, none⟩)), kv (.bool true), kv (.int .i64 (protoK true)), kv (.bool false), kv (.bool false)]
                [.none, .none, .none, .none, .none, .none, .none, .none, .none, .none, .none, .none, .none, .none, .none, .none, .none, .none, .none, .none]
                [some 9, some 10, some 11, some 12, some 13, some 14, some 15, some 16, some 17, some 18, some 19, some 20, some 21, some 22, some 23, some 24, some 25, some 26, some 27, some 28]
                [(4, .bool true), (1, .pointer (some ⟨g1, 0, none⟩))]
                [[], [.slot 0], [.slot 1], [.slot 2], [.slot 2, .slot 3], [.slot 2, .slot 4], [.slot 5], [.slot 6], [.slot 6, .slot 7], [.slot 6, .slot 8], [.slot 6, .slot 9], [.slot 10], [.slot 11], [.slot 11, .slot 12], [.slot 11], [.slot 11, .slot 14], [.slot 11, .slot 15], [.slot 11, .slot 16], [.slot 11, .slot 13, .slot 17], [.slot 11, .slot 18]]
                [.slot 19] [9, 10, 11, 12, 13, 14, 15, 16, 17, 18, 19, 20, 21, 22, 23, 24, 25, 26, 27, 28]
                rfl (by kernel_rfl) ⟨rfl, rfl, trivial⟩ ((Below.refl _ w11).drew) (Nat.le_refl _) trivial trivial (below_GcW (Nat.le_refl _))
                ⟨
                (fun QQ aa ww own hS hBg fr kn => .inl ⟨trivial, fun K hK => wp_value (exec_move rfl fr.1) (hK _ _ ⟨Touch.refl _ _, rfl⟩)⟩),
                (fun QQ aa ww own hS hBg fr kn => .inl ⟨trivial, fun K hK => wp_value (exec_notB rfl kn.1) (hK _ _ ⟨Touch.refl _ _, rfl⟩)⟩),
                (fun QQ aa ww own hS hBg fr kn => .inl ⟨trivial, fun K hK => wp_value (exec_move rfl kn.1) (hK _ _ ⟨Touch.refl _ _, rfl⟩)⟩),
                (fun QQ aa ww own hS hBg fr kn => .inl ⟨kn.1, fun K hK => wp_value (exec_fpk 7 (by decide) rfl fr.2.1) (hK _ _ ⟨Touch.refl _ _, rfl⟩)⟩),
                (fun QQ aa ww own hS hBg fr kn => .inl ⟨kn.1, fun K hK => wp_value (kn_ (c := false) Hhb15 (exec_ld rfl kn.2.1 (ldPb (pk_more (SAt.kept s12 hS))))) (hK _ _ ⟨Touch.refl _ _, rfl⟩)⟩),
                (fun QQ aa ww own hS hBg fr kn => .inl ⟨trivial, fun K hK => wp_value (exec_pickF (v := .bool false) rfl kn.1 kn.2.1) (hK _ _ ⟨Touch.refl _ _, rfl⟩)⟩),
                (fun QQ aa ww own hS hBg fr kn => .inl ⟨trivial, fun K hK => wp_value (exec_move rfl kn.1) (hK _ _ ⟨Touch.refl _ _, rfl⟩)⟩),
                (fun QQ aa ww own hS hBg fr kn => .inl ⟨kn.1, fun K hK => wp_value (exec_fpk 6 (by decide) rfl fr.2.1) (hK _ _ ⟨Touch.refl _ _, rfl⟩)⟩),
                (fun QQ aa ww own hS hBg fr kn => .inl ⟨kn.1, fun K hK => wp_value (exec_ld rfl kn.2.1 (ldP (pk_off (SAt.kept s12 hS)))) (hK _ _ ⟨Touch.refl _ _, rfl⟩)⟩),
                (fun QQ aa ww own hS hBg fr kn => .inl ⟨kn.1, fun K hK => wp_value (kn_ (c := false) Hhb23 (cmp_gt (m := P.off) (n := 0) rfl kn.2.1 rfl)) (hK _ _ ⟨Touch.refl _ _, rfl⟩)⟩),
                (fun QQ aa ww own hS hBg fr kn => .inl ⟨trivial, fun K hK => wp_value (exec_pickF (v := .bool false) rfl kn.1 kn.2.1) (hK _ _ ⟨Touch.refl _ _, rfl⟩)⟩),
                (fun QQ aa ww own hS hBg fr kn => .inl ⟨trivial, fun K hK => wp_value (exec_move rfl kn.1) (hK _ _ ⟨Touch.refl _ _, rfl⟩)⟩),
                (fun QQ aa ww own hS hBg fr kn => .inl ⟨kn.1, fun K hK => wp_value (exec_fpk 2 (by decide) rfl fr.2.1) (hK _ _ ⟨Touch.refl _ _, rfl⟩)⟩),
                (fun QQ aa ww own hS hBg fr kn => .inl ⟨kn.1, fun K hK => wp_value (exec_ld rfl kn.2.1 (ldP (pk_proto (SAt.kept s12 hS)))) (hK _ _ ⟨Touch.refl _ _, rfl⟩)⟩),
                (fun QQ aa ww own hS hBg fr kn => .inl ⟨kn.1, fun K hK => wp_value (exec_fpk 0 (by decide) rfl fr.2.1) (hK _ _ ⟨Touch.refl _ _, rfl⟩)⟩),
                (fun QQ aa ww own hS hBg fr kn => .inl ⟨kn.1, fun K hK => wp_value (exec_fad0 rfl kn.2.1) (hK _ _ ⟨Touch.refl _ _, rfl⟩)⟩),
                (fun QQ aa ww own hS hBg fr kn => .inl ⟨kn.1, fun K hK => wp_value (kn_ (c := true) Hhb31 (exec_ld rfl kn.2.1 (ldB (SAt.at (SAt.kept s12 hS) 0 (by decide))))) (hK _ _ ⟨Touch.refl _ _, rfl⟩)⟩),
                (fun QQ aa ww own hS hBg fr kn => .inl ⟨kn.1, fun K hK => stepc en_aditref15_proto rfl (args1 kn.2.1) (dproto_run true ww) (fun w' hb => hK _ _ ⟨touch_below hb, rfl⟩)⟩),
                (fun QQ aa ww own hS hBg fr kn => .inl ⟨kn.1, fun K hK => wp_value (kn_n (c := false) Hhb32 (cmp_ne (m := P.proto) (n := protoK true) rfl kn.2.1 kn.2.2.1)) (hK _ _ ⟨Touch.refl _ _, rfl⟩)⟩),
                (fun QQ aa ww own hS hBg fr kn => .inl ⟨trivial, fun K hK => wp_value (exec_pickF (v := .bool false) rfl kn.1 kn.2.1) (hK _ _ ⟨Touch.refl _ _, rfl⟩)⟩),
                trivial⟩ ?_
            intro vs own w33 hB33 hsz kn inj
            have e28 : vs 28 = .bool false := kn.1
            clear kn inj hsz
            simp only [putAll, Act.put, List.setIfInBounds_toArray, List.set_cons_zero, List.set_cons_succ, e28]
            clear e28
            have s34 := s12.kept hB33
            clear s12
            have s35 := s13.kept hB33
            clear s13
            have hbt36 := hbt14.trans (hB33.mono hbt14.size)
            clear hbt14
            clear hB33
            go_wp2_with (refine wl_value rfl (exec_fpk 0 (by decide) rfl rfl) ?_; refine Hid.out ?_)
            refine Hid.mk ?_
            go_wp2_with (refine wl_value rfl (exec_ld rfl rfl (ld_src s34)) ?_; refine Hid.out ?_)
            refine Hid.mk ?_
            go_wp2_with (refine wl_value rfl (exec_fpk 1 (by decide) rfl rfl) ?_; refine Hid.out ?_)
            refine Hid.mk ?_
            go_wp2_with (refine wl_value rfl (exec_ld rfl rfl (ld_dst s34)) ?_; refine Hid.out ?_)
            refine Hid.mk ?_
            go_wp2_with (refine wl_value rfl (exec_fpk 13 (by decide) rfl rfl) ?_; refine Hid.out ?_)
            refine Hid.mk ?_
            go_wp2_with (refine wl_value rfl (exec_ld rfl rfl (ldPs (pk_pay s34))) ?_; refine Hid.out ?_)
            refine Hid.mk ?_
            have HC37 : Hid (Calls Tryd.prog 12 #[.agg (SC 17 (adV P.sv P.sb)), .agg (SC 17 (adV P.dv P.db)), .string P.pay] w33 fun e w' => e = .returned (.tuple #[.agg (SC 4 (msV (mRdM P.sv P.sb P.dv P.db P.pay))), .int .i64 (mRdE P.sv P.sb P.dv P.db P.pay)]) ∧ Below w33.heap.size w33 w') := Hid.mk (dParse_run P.sv P.sb P.dv P.db P.pay w33 HP.out.ok.sb HP.out.ok.db (by have := HP.out.bp; omega))
            go_wp2_with (refine wl_cal en_aditref15_Parse HC37 rfl rfl (args3 rfl rfl rfl) ?_; intro w38 hB38; refine Hid.out ?_)
            refine Hid.mk ?_
            clear HC37
            have s39 := s34.kept hB38
            clear s34
            have s40 := s35.kept hB38
            clear s35
            have hbt41 := hbt36.trans (hB38.mono hbt36.size)
            clear hbt36
            clear hB38
            go_wp2_with (refine wl_alO (V := msV ms0) rfl rfl zeroMs ?_; intro g42 w42 hg42 s42 hB42; refine Hid.out ?_)
            refine Hid.mk ?_
            have hn43 : g1 ≠ g42 := by have := s39.lt; omega
            have hn44 : g4 ≠ g42 := by have := s40.lt; omega
            have hz45 : w.heap.size ≤ g42 := by have := hbt41.size; omega
            have s46 := s39.kept hB42
            clear s39
            have s47 := s40.kept hB42
            clear s40
            have hbt48 := hbt41.trans (hB42.mono hbt41.size)
            clear hbt41
            clear hB42 hg42
            go_wp2_with (refine st_stO (V := msV (mRdM P.sv P.sb P.dv P.db P.pay)) (g := g42) rfl rfl isMs (msV_one _) s42 rfl rfl ?_; intro w49 s49 ho49; refine Hid.out ?_)
            refine Hid.mk ?_
            clear s42
            have s50 := s46.only ho49 hn43
            clear s46
            have s51 := s47.only ho49 hn44
            clear s47
            have hbt52 := hbt48.trans (ho49.below hz45)
            clear hbt48
            clear ho49
            go_wp2_with (refine wl_value rfl (look_st rfl isMs s49 rfl) ?_; refine Hid.out ?_)
            refine Hid.mk ?_
            rcases Bool.eq_false_or_eq_true (decide (mRdE P.sv P.sb P.dv P.db P.pay = 0)) with hb53 | hb53
            · have Hhb53 := Hid.mk hb53
              clear hb53
              have HDhb53 := Hid.mk (of_decide_eq_true Hhb53.out)
              go_wp2_with (refine wl_value rfl (kn_ (c := true) Hhb53 (cmp_eqE (m := mRdE P.sv P.sb P.dv P.db P.pay) (n := 0) rfl rfl rfl)) ?_; refine Hid.out ?_)
              refine Hid.mk ?_
              go_wp2_with (refine st_stO (V := msV (mRdM P.sv P.sb P.dv P.db P.pay)) (g := g4) rfl rfl isMs (msV_one _) s51 rfl rfl ?_; intro w54 s54 ho54; refine Hid.out ?_)
              refine Hid.mk ?_
              clear s51
              have s55 := s50.only ho54 hn5
              clear s50
              have s56 := s49.only ho54 hn44.symm
              clear s49
              have hbt57 := hbt52.trans (ho54.below hz6)
              clear hbt52
              clear ho54
              go_wp2_with fail
              have hC : msgC P = true := by unfold msgC; rw [off_eq Hhb9.out]; (try simp only [Hhb9.out, Hhb23.out, Hhb32.out, Hhb53.out]) <;> simp [Hhb9.out, Hhb23.out, Hhb32.out, Hhb53.out, Hhb15.out, Hhb31.out]
              have hB : msgB P = true := by unfold msgB msgE; rw [hC, Hhb53.out]; rfl
              have hM : msgM P = mRdM P.sv P.sb P.dv P.db P.pay := by unfold msgM; rw [if_pos hC]
              refine bodyPost_ret (res_ct rfl isMs s54 (by rfl) (by rfl)) rfl ?_
              exact ⟨Eq.trans (rfl : _ = Ending.returned (.tuple #[.agg (SC 4 (msV (mRdM P.sv P.sb P.dv P.db P.pay))), .bool true])) (by rw [← HRV.out, hB, hM]), hbt57⟩
            · have Hhb53 := Hid.mk hb53
              clear hb53
              have HDhb53 := Hid.mk (of_decide_eq_false Hhb53.out)
              go_wp2_with (refine wl_value rfl (kn_ (c := false) Hhb53 (cmp_eqE (m := mRdE P.sv P.sb P.dv P.db P.pay) (n := 0) rfl rfl rfl)) ?_; refine Hid.out ?_)
              refine Hid.mk ?_
              go_wp2_with (refine st_stO (V := msV (mRdM P.sv P.sb P.dv P.db P.pay)) (g := g4) rfl rfl isMs (msV_one _) s51 rfl rfl ?_; intro w58 s58 ho58; refine Hid.out ?_)
              refine Hid.mk ?_
              clear s51
              have s59 := s50.only ho58 hn5
              clear s50
              have s60 := s49.only ho58 hn44.symm
              clear s49
              have hbt61 := hbt52.trans (ho58.below hz6)
              clear hbt52
              clear ho58
              go_wp2_with fail
              have hC : msgC P = true := by unfold msgC; rw [off_eq Hhb9.out]; (try simp only [Hhb9.out, Hhb23.out, Hhb32.out, Hhb53.out]) <;> simp [Hhb9.out, Hhb23.out, Hhb32.out, Hhb53.out, Hhb15.out, Hhb31.out]
              have hB : msgB P = false := by unfold msgB msgE; rw [hC, Hhb53.out]; rfl
              have hM : msgM P = mRdM P.sv P.sb P.dv P.db P.pay := by unfold msgM; rw [if_pos hC]
              refine bodyPost_ret (res_ct rfl isMs s58 (by rfl) (by rfl)) rfl ?_
              exact ⟨Eq.trans (rfl : _ = Ending.returned (.tuple #[.agg (SC 4 (msV (mRdM P.sv P.sb P.dv P.db P.pay))), .bool false])) (by rw [← HRV.out, hB, hM]), hbt61⟩
          · have Hhb32 := Hid.mk hb32
            clear hb32
            have HDhb32 := Hid.mk (of_decide_eq_false Hhb32.out)
            go_upto_region 2 with fail
            refine wp_region3 (Below w11.heap.size w11) w11.heap.size
                ([] : List (Nat × Cont))
                [kv (.bool true), kv (.bool false), kv (.bool false), kv (.pointer (some ⟨g1, 39, none⟩)), kv (.bool false), kv (.bool false), kv (.bool false), kv (.pointer (some ⟨g1, 38, none⟩)), kv (.int .i64 P.off), kv (.bool false), kv (.bool false), kv (.bool false), kv (.pointer (some ⟨g1, 34, none⟩)), kv (.int .i64 P.proto), kv (.pointer (some ⟨g1, 0, none⟩)), kv (.pointer (some ⟨g1, 0, none⟩)), kv (.bool true), kv (.int .i64 (protoK true)), kv (.bool true), kv (.bool true)]
                [.none, .none, .none, .none, .none, .none, .none, .none, .none, .none, .none, .none, .none, .none, .none, .none, .none, .none, .none, .none]
                [some 9, some 10, some 11, some 12, some 13, some 14, some 15, some 16, some 17, some 18, some 19, some 20, some 21, some 22, some 23, some 24, some 25, some 26, some 27, some 28]
                [(4, .bool true), (1, .pointer (some ⟨g1, 0, none⟩))]
                [[], [.slot 0], [.slot 1], [.slot 2], [.slot 2, .slot 3], [.slot 2, .slot 4], [.slot 5], [.slot 6], [.slot 6, .slot 7], [.slot 6, .slot 8], [.slot 6, .slot 9], [.slot 10], [.slot 11], [.slot 11, .slot 12], [.slot 11], [.slot 11, .slot 14], [.slot 11, .slot 15], [.slot 11, .slot 16], [.slot 11, .slot 13, .slot 17], [.slot 11, .slot 18]]
                [.slot 19] [9, 10, 11, 12, 13, 14, 15, 16, 17, 18, 19, 20, 21, 22, 23, 24, 25, 26, 27, 28]
                rfl (by kernel_rfl) ⟨rfl, rfl, trivial⟩ ((Below.refl _ w11).drew) (Nat.le_refl _) trivial trivial (below_GcW (Nat.le_refl _))
                ⟨
                (fun QQ aa ww own hS hBg fr kn => .inl ⟨trivial, fun K hK => wp_value (exec_move rfl fr.1) (hK _ _ ⟨Touch.refl _ _, rfl⟩)⟩),
                (fun QQ aa ww own hS hBg fr kn => .inl ⟨trivial, fun K hK => wp_value (exec_notB rfl kn.1) (hK _ _ ⟨Touch.refl _ _, rfl⟩)⟩),
                (fun QQ aa ww own hS hBg fr kn => .inl ⟨trivial, fun K hK => wp_value (exec_move rfl kn.1) (hK _ _ ⟨Touch.refl _ _, rfl⟩)⟩),
                (fun QQ aa ww own hS hBg fr kn => .inl ⟨kn.1, fun K hK => wp_value (exec_fpk 7 (by decide) rfl fr.2.1) (hK _ _ ⟨Touch.refl _ _, rfl⟩)⟩),
                (fun QQ aa ww own hS hBg fr kn => .inl ⟨kn.1, fun K hK => wp_value (kn_ (c := false) Hhb15 (exec_ld rfl kn.2.1 (ldPb (pk_more (SAt.kept s12 hS))))) (hK _ _ ⟨Touch.refl _ _, rfl⟩)⟩),
                (fun QQ aa ww own hS hBg fr kn => .inl ⟨trivial, fun K hK => wp_value (exec_pickF (v := .bool false) rfl kn.1 kn.2.1) (hK _ _ ⟨Touch.refl _ _, rfl⟩)⟩),
                (fun QQ aa ww own hS hBg fr kn => .inl ⟨trivial, fun K hK => wp_value (exec_move rfl kn.1) (hK _ _ ⟨Touch.refl _ _, rfl⟩)⟩),
                (fun QQ aa ww own hS hBg fr kn => .inl ⟨kn.1, fun K hK => wp_value (exec_fpk 6 (by decide) rfl fr.2.1) (hK _ _ ⟨Touch.refl _ _, rfl⟩)⟩),
                (fun QQ aa ww own hS hBg fr kn => .inl ⟨kn.1, fun K hK => wp_value (exec_ld rfl kn.2.1 (ldP (pk_off (SAt.kept s12 hS)))) (hK _ _ ⟨Touch.refl _ _, rfl⟩)⟩),
                (fun QQ aa ww own hS hBg fr kn => .inl ⟨kn.1, fun K hK => wp_value (kn_ (c := false) Hhb23 (cmp_gt (m := P.off) (n := 0) rfl kn.2.1 rfl)) (hK _ _ ⟨Touch.refl _ _, rfl⟩)⟩),
                (fun QQ aa ww own hS hBg fr kn => .inl ⟨trivial, fun K hK => wp_value (exec_pickF (v := .bool false) rfl kn.1 kn.2.1) (hK _ _ ⟨Touch.refl _ _, rfl⟩)⟩),
                (fun QQ aa ww own hS hBg fr kn => .inl ⟨trivial, fun K hK => wp_value (exec_move rfl kn.1) (hK _ _ ⟨Touch.refl _ _, rfl⟩)⟩),
                (fun QQ aa ww own hS hBg fr kn => .inl ⟨kn.1, fun K hK => wp_value (exec_fpk 2 (by decide) rfl fr.2.1) (hK _ _ ⟨Touch.refl _ _, rfl⟩)⟩),
                (fun QQ aa ww own hS hBg fr kn => .inl ⟨kn.1, fun K hK => wp_value (exec_ld rfl kn.2.1 (ldP (pk_proto (SAt.kept s12 hS)))) (hK _ _ ⟨Touch.refl _ _, rfl⟩)⟩),
                (fun QQ aa ww own hS hBg fr kn => .inl ⟨kn.1, fun K hK => wp_value (exec_fpk 0 (by decide) rfl fr.2.1) (hK _ _ ⟨Touch.refl _ _, rfl⟩)⟩),
                (fun QQ aa ww own hS hBg fr kn => .inl ⟨kn.1, fun K hK => wp_value (exec_fad0 rfl kn.2.1) (hK _ _ ⟨Touch.refl _ _, rfl⟩)⟩),
                (fun QQ aa ww own hS hBg fr kn => .inl ⟨kn.1, fun K hK => wp_value (kn_ (c := true) Hhb31 (exec_ld rfl kn.2.1 (ldB (SAt.at (SAt.kept s12 hS) 0 (by decide))))) (hK _ _ ⟨Touch.refl _ _, rfl⟩)⟩),
                (fun QQ aa ww own hS hBg fr kn => .inl ⟨kn.1, fun K hK => stepc en_aditref15_proto rfl (args1 kn.2.1) (dproto_run true ww) (fun w' hb => hK _ _ ⟨touch_below hb, rfl⟩)⟩),
                (fun QQ aa ww own hS hBg fr kn => .inl ⟨kn.1, fun K hK => wp_value (kn_n (c := true) Hhb32 (cmp_ne (m := P.proto) (n := protoK true) rfl kn.2.1 kn.2.2.1)) (hK _ _ ⟨Touch.refl _ _, rfl⟩)⟩),
                (fun QQ aa ww own hS hBg fr kn => .inl ⟨trivial, fun K hK => wp_value (exec_pickF (v := .bool true) rfl kn.1 kn.2.1) (hK _ _ ⟨Touch.refl _ _, rfl⟩)⟩),
                trivial⟩ ?_
            intro vs own w62 hB62 hsz kn inj
            have e28 : vs 28 = .bool true := kn.1
            clear kn inj hsz
            simp only [putAll, Act.put, List.setIfInBounds_toArray, List.set_cons_zero, List.set_cons_succ, e28]
            clear e28
            have s63 := s12.kept hB62
            clear s12
            have s64 := s13.kept hB62
            clear s13
            have hbt65 := hbt14.trans (hB62.mono hbt14.size)
            clear hbt14
            clear hB62
            go_wp2_with (refine wl_value rfl (exec_bdMs0 rfl) ?_; refine Hid.out ?_)
            refine Hid.mk ?_
            go_wp2_with (refine st_stO (V := msV ms0) (g := g4) rfl rfl isMs (msV_one _) s64 rfl rfl ?_; intro w66 s66 ho66; refine Hid.out ?_)
            refine Hid.mk ?_
            clear s64
            have s67 := s63.only ho66 hn5
            clear s63
            have hbt68 := hbt65.trans (ho66.below hz6)
            clear hbt65
            clear ho66
            go_wp2_with fail
            have hC : msgC P = false := by unfold msgC; rw [off_eq Hhb9.out]; (try simp only [Hhb9.out, Hhb23.out, Hhb32.out]) <;> simp [Hhb9.out, Hhb23.out, Hhb32.out, Hhb15.out, Hhb31.out]
            have hB : msgB P = false := by unfold msgB; rw [hC]; rfl
            have hM : msgM P = ms0 := by unfold msgM; rw [if_neg (by rw [hC]; decide)]
            refine bodyPost_ret (res_ct rfl isMs s66 (by rfl) (by rfl)) rfl ?_
            exact ⟨Eq.trans (rfl : _ = Ending.returned (.tuple #[.agg (SC 4 (msV ms0)), .bool false])) (by rw [← HRV.out, hB, hM]), hbt68⟩
        · have Hhb31 := Hid.mk hb31
          clear hb31
          rcases Bool.eq_false_or_eq_true (decide (P.proto = protoK false)) with hb69 | hb69
          · have Hhb69 := Hid.mk hb69
            clear hb69
            have HDhb69 := Hid.mk (of_decide_eq_true Hhb69.out)
            go_upto_region 2 with fail
            refine wp_region3 (Below w11.heap.size w11) w11.heap.size
                ([] : List (Nat × Cont))
                [kv (.bool true), kv (.bool false), kv (.bool false), kv (.pointer (some ⟨g1, 39, none⟩)), kv (.bool false), kv (.bool false), kv (.bool false), kv (.pointer (some ⟨g1, 38, none⟩)), kv (.int .i64 P.off), kv (.bool false), kv (.bool false), kv (.bool false), kv (.pointer (some ⟨g1, 34, none⟩)), kv (.int .i64 P.proto), kv (.pointer (some ⟨g1, 0, none⟩)), kv (.pointer (some ⟨g1, 0, none⟩)), kv (.bool false), kv (.int .i64 (protoK false)), kv (.bool false), kv (.bool false)]
                [.none, .none, .none, .none, .none, .none, .none, .none, .none, .none, .none, .none, .none, .none, .none, .none, .none, .none, .none, .none]
                [some 9, some 10, some 11, some 12, some 13, some 14, some 15, some 16, some 17, some 18, some 19, some 20, some 21, some 22, some 23, some 24, some 25, some 26, some 27, some 28]
                [(4, .bool true), (1, .pointer (some ⟨g1, 0, none⟩))]
                [[], [.slot 0], [.slot 1], [.slot 2], [.slot 2, .slot 3], [.slot 2, .slot 4], [.slot 5], [.slot 6], [.slot 6, .slot 7], [.slot 6, .slot 8], [.slot 6, .slot 9], [.slot 10], [.slot 11], [.slot 11, .slot 12], [.slot 11], [.slot 11, .slot 14], [.slot 11, .slot 15], [.slot 11, .slot 16], [.slot 11, .slot 13, .slot 17], [.slot 11, .slot 18]]
                [.slot 19] [9, 10, 11, 12, 13, 14, 15, 16, 17, 18, 19, 20, 21, 22, 23, 24, 25, 26, 27, 28]
                rfl (by kernel_rfl) ⟨rfl, rfl, trivial⟩ ((Below.refl _ w11).drew) (Nat.le_refl _) trivial trivial (below_GcW (Nat.le_refl _))
                ⟨
                (fun QQ aa ww own hS hBg fr kn => .inl ⟨trivial, fun K hK => wp_value (exec_move rfl fr.1) (hK _ _ ⟨Touch.refl _ _, rfl⟩)⟩),
                (fun QQ aa ww own hS hBg fr kn => .inl ⟨trivial, fun K hK => wp_value (exec_notB rfl kn.1) (hK _ _ ⟨Touch.refl _ _, rfl⟩)⟩),
                (fun QQ aa ww own hS hBg fr kn => .inl ⟨trivial, fun K hK => wp_value (exec_move rfl kn.1) (hK _ _ ⟨Touch.refl _ _, rfl⟩)⟩),
                (fun QQ aa ww own hS hBg fr kn => .inl ⟨kn.1, fun K hK => wp_value (exec_fpk 7 (by decide) rfl fr.2.1) (hK _ _ ⟨Touch.refl _ _, rfl⟩)⟩),
                (fun QQ aa ww own hS hBg fr kn => .inl ⟨kn.1, fun K hK => wp_value (kn_ (c := false) Hhb15 (exec_ld rfl kn.2.1 (ldPb (pk_more (SAt.kept s12 hS))))) (hK _ _ ⟨Touch.refl _ _, rfl⟩)⟩),
                (fun QQ aa ww own hS hBg fr kn => .inl ⟨trivial, fun K hK => wp_value (exec_pickF (v := .bool false) rfl kn.1 kn.2.1) (hK _ _ ⟨Touch.refl _ _, rfl⟩)⟩),
                (fun QQ aa ww own hS hBg fr kn => .inl ⟨trivial, fun K hK => wp_value (exec_move rfl kn.1) (hK _ _ ⟨Touch.refl _ _, rfl⟩)⟩),
                (fun QQ aa ww own hS hBg fr kn => .inl ⟨kn.1, fun K hK => wp_value (exec_fpk 6 (by decide) rfl fr.2.1) (hK _ _ ⟨Touch.refl _ _, rfl⟩)⟩),
                (fun QQ aa ww own hS hBg fr kn => .inl ⟨kn.1, fun K hK => wp_value (exec_ld rfl kn.2.1 (ldP (pk_off (SAt.kept s12 hS)))) (hK _ _ ⟨Touch.refl _ _, rfl⟩)⟩),
                (fun QQ aa ww own hS hBg fr kn => .inl ⟨kn.1, fun K hK => wp_value (kn_ (c := false) Hhb23 (cmp_gt (m := P.off) (n := 0) rfl kn.2.1 rfl)) (hK _ _ ⟨Touch.refl _ _, rfl⟩)⟩),
                (fun QQ aa ww own hS hBg fr kn => .inl ⟨trivial, fun K hK => wp_value (exec_pickF (v := .bool false) rfl kn.1 kn.2.1) (hK _ _ ⟨Touch.refl _ _, rfl⟩)⟩),
                (fun QQ aa ww own hS hBg fr kn => .inl ⟨trivial, fun K hK => wp_value (exec_move rfl kn.1) (hK _ _ ⟨Touch.refl _ _, rfl⟩)⟩),
                (fun QQ aa ww own hS hBg fr kn => .inl ⟨kn.1, fun K hK => wp_value (exec_fpk 2 (by decide) rfl fr.2.1) (hK _ _ ⟨Touch.refl _ _, rfl⟩)⟩),
                (fun QQ aa ww own hS hBg fr kn => .inl ⟨kn.1, fun K hK => wp_value (exec_ld rfl kn.2.1 (ldP (pk_proto (SAt.kept s12 hS)))) (hK _ _ ⟨Touch.refl _ _, rfl⟩)⟩),
                (fun QQ aa ww own hS hBg fr kn => .inl ⟨kn.1, fun K hK => wp_value (exec_fpk 0 (by decide) rfl fr.2.1) (hK _ _ ⟨Touch.refl _ _, rfl⟩)⟩),
                (fun QQ aa ww own hS hBg fr kn => .inl ⟨kn.1, fun K hK => wp_value (exec_fad0 rfl kn.2.1) (hK _ _ ⟨Touch.refl _ _, rfl⟩)⟩),
                (fun QQ aa ww own hS hBg fr kn => .inl ⟨kn.1, fun K hK => wp_value (kn_ (c := false) Hhb31 (exec_ld rfl kn.2.1 (ldB (SAt.at (SAt.kept s12 hS) 0 (by decide))))) (hK _ _ ⟨Touch.refl _ _, rfl⟩)⟩),
                (fun QQ aa ww own hS hBg fr kn => .inl ⟨kn.1, fun K hK => stepc en_aditref15_proto rfl (args1 kn.2.1) (dproto_run false ww) (fun w' hb => hK _ _ ⟨touch_below hb, rfl⟩)⟩),
                (fun QQ aa ww own hS hBg fr kn => .inl ⟨kn.1, fun K hK => wp_value (kn_n (c := false) Hhb69 (cmp_ne (m := P.proto) (n := protoK false) rfl kn.2.1 kn.2.2.1)) (hK _ _ ⟨Touch.refl _ _, rfl⟩)⟩),
                (fun QQ aa ww own hS hBg fr kn => .inl ⟨trivial, fun K hK => wp_value (exec_pickF (v := .bool false) rfl kn.1 kn.2.1) (hK _ _ ⟨Touch.refl _ _, rfl⟩)⟩),
                trivial⟩ ?_
            intro vs own w70 hB70 hsz kn inj
            have e28 : vs 28 = .bool false := kn.1
            clear kn inj hsz
            simp only [putAll, Act.put, List.setIfInBounds_toArray, List.set_cons_zero, List.set_cons_succ, e28]
            clear e28
            have s71 := s12.kept hB70
            clear s12
            have s72 := s13.kept hB70
            clear s13
            have hbt73 := hbt14.trans (hB70.mono hbt14.size)
            clear hbt14
            clear hB70
            go_wp2_with (refine wl_value rfl (exec_fpk 0 (by decide) rfl rfl) ?_; refine Hid.out ?_)
            refine Hid.mk ?_
            go_wp2_with (refine wl_value rfl (exec_ld rfl rfl (ld_src s71)) ?_; refine Hid.out ?_)
            refine Hid.mk ?_
            go_wp2_with (refine wl_value rfl (exec_fpk 1 (by decide) rfl rfl) ?_; refine Hid.out ?_)
            refine Hid.mk ?_
            go_wp2_with (refine wl_value rfl (exec_ld rfl rfl (ld_dst s71)) ?_; refine Hid.out ?_)
            refine Hid.mk ?_
            go_wp2_with (refine wl_value rfl (exec_fpk 13 (by decide) rfl rfl) ?_; refine Hid.out ?_)
            refine Hid.mk ?_
            go_wp2_with (refine wl_value rfl (exec_ld rfl rfl (ldPs (pk_pay s71))) ?_; refine Hid.out ?_)
            refine Hid.mk ?_
            have HC74 : Hid (Calls Tryd.prog 12 #[.agg (SC 17 (adV P.sv P.sb)), .agg (SC 17 (adV P.dv P.db)), .string P.pay] w70 fun e w' => e = .returned (.tuple #[.agg (SC 4 (msV (mRdM P.sv P.sb P.dv P.db P.pay))), .int .i64 (mRdE P.sv P.sb P.dv P.db P.pay)]) ∧ Below w70.heap.size w70 w') := Hid.mk (dParse_run P.sv P.sb P.dv P.db P.pay w70 HP.out.ok.sb HP.out.ok.db (by have := HP.out.bp; omega))
            go_wp2_with (refine wl_cal en_aditref15_Parse HC74 rfl rfl (args3 rfl rfl rfl) ?_; intro w75 hB75; refine Hid.out ?_)
            refine Hid.mk ?_
            clear HC74
            have s76 := s71.kept hB75
            clear s71
            have s77 := s72.kept hB75
            clear s72
            have hbt78 := hbt73.trans (hB75.mono hbt73.size)
            clear hbt73
            clear hB75
            go_wp2_with (refine wl_alO (V := msV ms0) rfl rfl zeroMs ?_; intro g79 w79 hg79 s79 hB79; refine Hid.out ?_)
            refine Hid.mk ?_
            have hn80 : g1 ≠ g79 := by have := s76.lt; omega
            have hn81 : g4 ≠ g79 := by have := s77.lt; omega
            have hz82 : w.heap.size ≤ g79 := by have := hbt78.size; omega
            have s83 := s76.kept hB79
            clear s76
            have s84 := s77.kept hB79
            clear s77
            have hbt85 := hbt78.trans (hB79.mono hbt78.size)
            clear hbt78
            clear hB79 hg79
            go_wp2_with (refine st_stO (V := msV (mRdM P.sv P.sb P.dv P.db P.pay)) (g := g79) rfl rfl isMs (msV_one _) s79 rfl rfl ?_; intro w86 s86 ho86; refine Hid.out ?_)
            refine Hid.mk ?_
            clear s79
            have s87 := s83.only ho86 hn80
            clear s83
            have s88 := s84.only ho86 hn81
            clear s84
            have hbt89 := hbt85.trans (ho86.below hz82)
            clear hbt85
            clear ho86
            go_wp2_with (refine wl_value rfl (look_st rfl isMs s86 rfl) ?_; refine Hid.out ?_)
            refine Hid.mk ?_
            rcases Bool.eq_false_or_eq_true (decide (mRdE P.sv P.sb P.dv P.db P.pay = 0)) with hb90 | hb90
            · have Hhb90 := Hid.mk hb90
              clear hb90
              have HDhb90 := Hid.mk (of_decide_eq_true Hhb90.out)
              go_wp2_with (refine wl_value rfl (kn_ (c := true) Hhb90 (cmp_eqE (m := mRdE P.sv P.sb P.dv P.db P.pay) (n := 0) rfl rfl rfl)) ?_; refine Hid.out ?_)
              refine Hid.mk ?_
              go_wp2_with (refine st_stO (V := msV (mRdM P.sv P.sb P.dv P.db P.pay)) (g := g4) rfl rfl isMs (msV_one _) s88 rfl rfl ?_; intro w91 s91 ho91; refine Hid.out ?_)
              refine Hid.mk ?_
              clear s88
              have s92 := s87.only ho91 hn5
              clear s87
              have s93 := s86.only ho91 hn81.symm
              clear s86
              have hbt94 := hbt89.trans (ho91.below hz6)
              clear hbt89
              clear ho91
              go_wp2_with fail
              have hC : msgC P = true := by unfold msgC; rw [off_eq Hhb9.out]; (try simp only [Hhb9.out, Hhb23.out, Hhb69.out, Hhb90.out]) <;> simp [Hhb9.out, Hhb23.out, Hhb69.out, Hhb90.out, Hhb15.out, Hhb31.out]
              have hB : msgB P = true := by unfold msgB msgE; rw [hC, Hhb90.out]; rfl
              have hM : msgM P = mRdM P.sv P.sb P.dv P.db P.pay := by unfold msgM; rw [if_pos hC]
              refine bodyPost_ret (res_ct rfl isMs s91 (by rfl) (by rfl)) rfl ?_
              exact ⟨Eq.trans (rfl : _ = Ending.returned (.tuple #[.agg (SC 4 (msV (mRdM P.sv P.sb P.dv P.db P.pay))), .bool true])) (by rw [← HRV.out, hB, hM]), hbt94⟩
            · have Hhb90 := Hid.mk hb90
              clear hb90
              have HDhb90 := Hid.mk (of_decide_eq_false Hhb90.out)
              go_wp2_with (refine wl_value rfl (kn_ (c := false) Hhb90 (cmp_eqE (m := mRdE P.sv P.sb P.dv P.db P.pay) (n := 0) rfl rfl rfl)) ?_; refine Hid.out ?_)
              refine Hid.mk ?_
              go_wp2_with (refine st_stO (V := msV (mRdM P.sv P.sb P.dv P.db P.pay)) (g := g4) rfl rfl isMs (msV_one _) s88 rfl rfl ?_; intro w95 s95 ho95; refine Hid.out ?_)
              refine Hid.mk ?_
              clear s88
              have s96 := s87.only ho95 hn5
              clear s87
              have s97 := s86.only ho95 hn81.symm
              clear s86
              have hbt98 := hbt89.trans (ho95.below hz6)
              clear hbt89
              clear ho95
              go_wp2_with fail
              have hC : msgC P = true := by unfold msgC; rw [off_eq Hhb9.out]; (try simp only [Hhb9.out, Hhb23.out, Hhb69.out, Hhb90.out]) <;> simp [Hhb9.out, Hhb23.out, Hhb69.out, Hhb90.out, Hhb15.out, Hhb31.out]
              have hB : msgB P = false := by unfold msgB msgE; rw [hC, Hhb90.out]; rfl
              have hM : msgM P = mRdM P.sv P.sb P.dv P.db P.pay := by unfold msgM; rw [if_pos hC]
              refine bodyPost_ret (res_ct rfl isMs s95 (by rfl) (by rfl)) rfl ?_
              exact ⟨Eq.trans (rfl : _ = Ending.returned (.tuple #[.agg (SC 4 (msV (mRdM P.sv P.sb P.dv P.db P.pay))), .bool false])) (by rw [← HRV.out, hB, hM]), hbt98⟩
          · have Hhb69 := Hid.mk hb69
            clear hb69
            have HDhb69 := Hid.mk (of_decide_eq_false Hhb69.out)
            go_upto_region 2 with fail
            refine wp_region3 (Below w11.heap.size w11) w11.heap.size
                ([] : List (Nat × Cont))
                [kv (.bool true), kv (.bool false), kv (.bool false), kv (.pointer (some ⟨g1, 39, none⟩)), kv (.bool false), kv (.bool false), kv (.bool false), kv (.pointer (some ⟨g1, 38, none⟩)), kv (.int .i64 P.off), kv (.bool false), kv (.bool false), kv (.bool false), kv (.pointer (some ⟨g1, 34, none⟩)), kv (.int .i64 P.proto), kv (.pointer (some ⟨g1, 0, none⟩)), kv (.pointer (some ⟨g1, 0, none⟩)), kv (.bool false), kv (.int .i64 (protoK false)), kv (.bool true), kv (.bool true)]
                [.none, .none, .none, .none, .none, .none, .none, .none, .none, .none, .none, .none, .none, .none, .none, .none, .none, .none, .none, .none]
                [some 9, some 10, some 11, some 12, some 13, some 14, some 15, some 16, some 17, some 18, some 19, some 20, some 21, some 22, some 23, some 24, some 25, some 26, some 27, some 28]
                [(4, .bool true), (1, .pointer (some ⟨g1, 0, none⟩))]
                [[], [.slot 0], [.slot 1], [.slot 2], [.slot 2, .slot 3], [.slot 2, .slot 4], [.slot 5], [.slot 6], [.slot 6, .slot 7], [.slot 6, .slot 8], [.slot 6, .slot 9], [.slot 10], [.slot 11], [.slot 11, .slot 12], [.slot 11], [.slot 11, .slot 14], [.slot 11, .slot 15], [.slot 11, .slot 16], [.slot 11, .slot 13, .slot 17], [.slot 11, .slot 18]]
                [.slot 19] [9, 10, 11, 12, 13, 14, 15, 16, 17, 18, 19, 20, 21, 22, 23, 24, 25, 26, 27, 28]
                rfl (by kernel_rfl) ⟨rfl, rfl, trivial⟩ ((Below.refl _ w11).drew) (Nat.le_refl _) trivial trivial (below_GcW (Nat.le_refl _))
                ⟨
                (fun QQ aa ww own hS hBg fr kn => .inl ⟨trivial, fun K hK => wp_value (exec_move rfl fr.1) (hK _ _ ⟨Touch.refl _ _, rfl⟩)⟩),
                (fun QQ aa ww own hS hBg fr kn => .inl ⟨trivial, fun K hK => wp_value (exec_notB rfl kn.1) (hK _ _ ⟨Touch.refl _ _, rfl⟩)⟩),
                (fun QQ aa ww own hS hBg fr kn => .inl ⟨trivial, fun K hK => wp_value (exec_move rfl kn.1) (hK _ _ ⟨Touch.refl _ _, rfl⟩)⟩),
                (fun QQ aa ww own hS hBg fr kn => .inl ⟨kn.1, fun K hK => wp_value (exec_fpk 7 (by decide) rfl fr.2.1) (hK _ _ ⟨Touch.refl _ _, rfl⟩)⟩),
                (fun QQ aa ww own hS hBg fr kn => .inl ⟨kn.1, fun K hK => wp_value (kn_ (c := false) Hhb15 (exec_ld rfl kn.2.1 (ldPb (pk_more (SAt.kept s12 hS))))) (hK _ _ ⟨Touch.refl _ _, rfl⟩)⟩),
                (fun QQ aa ww own hS hBg fr kn => .inl ⟨trivial, fun K hK => wp_value (exec_pickF (v := .bool false) rfl kn.1 kn.2.1) (hK _ _ ⟨Touch.refl _ _, rfl⟩)⟩),
                (fun QQ aa ww own hS hBg fr kn => .inl ⟨trivial, fun K hK => wp_value (exec_move rfl kn.1) (hK _ _ ⟨Touch.refl _ _, rfl⟩)⟩),
                (fun QQ aa ww own hS hBg fr kn => .inl ⟨kn.1, fun K hK => wp_value (exec_fpk 6 (by decide) rfl fr.2.1) (hK _ _ ⟨Touch.refl _ _, rfl⟩)⟩),
                (fun QQ aa ww own hS hBg fr kn => .inl ⟨kn.1, fun K hK => wp_value (exec_ld rfl kn.2.1 (ldP (pk_off (SAt.kept s12 hS)))) (hK _ _ ⟨Touch.refl _ _, rfl⟩)⟩),
                (fun QQ aa ww own hS hBg fr kn => .inl ⟨kn.1, fun K hK => wp_value (kn_ (c := false) Hhb23 (cmp_gt (m := P.off) (n := 0) rfl kn.2.1 rfl)) (hK _ _ ⟨Touch.refl _ _, rfl⟩)⟩),
                (fun QQ aa ww own hS hBg fr kn => .inl ⟨trivial, fun K hK => wp_value (exec_pickF (v := .bool false) rfl kn.1 kn.2.1) (hK _ _ ⟨Touch.refl _ _, rfl⟩)⟩),
                (fun QQ aa ww own hS hBg fr kn => .inl ⟨trivial, fun K hK => wp_value (exec_move rfl kn.1) (hK _ _ ⟨Touch.refl _ _, rfl⟩)⟩),
                (fun QQ aa ww own hS hBg fr kn => .inl ⟨kn.1, fun K hK => wp_value (exec_fpk 2 (by decide) rfl fr.2.1) (hK _ _ ⟨Touch.refl _ _, rfl⟩)⟩),
                (fun QQ aa ww own hS hBg fr kn => .inl ⟨kn.1, fun K hK => wp_value (exec_ld rfl kn.2.1 (ldP (pk_proto (SAt.kept s12 hS)))) (hK _ _ ⟨Touch.refl _ _, rfl⟩)⟩),
                (fun QQ aa ww own hS hBg fr kn => .inl ⟨kn.1, fun K hK => wp_value (exec_fpk 0 (by decide) rfl fr.2.1) (hK _ _ ⟨Touch.refl _ _, rfl⟩)⟩),
                (fun QQ aa ww own hS hBg fr kn => .inl ⟨kn.1, fun K hK => wp_value (exec_fad0 rfl kn.2.1) (hK _ _ ⟨Touch.refl _ _, rfl⟩)⟩),
                (fun QQ aa ww own hS hBg fr kn => .inl ⟨kn.1, fun K hK => wp_value (kn_ (c := false) Hhb31 (exec_ld rfl kn.2.1 (ldB (SAt.at (SAt.kept s12 hS) 0 (by decide))))) (hK _ _ ⟨Touch.refl _ _, rfl⟩)⟩),
                (fun QQ aa ww own hS hBg fr kn => .inl ⟨kn.1, fun K hK => stepc en_aditref15_proto rfl (args1 kn.2.1) (dproto_run false ww) (fun w' hb => hK _ _ ⟨touch_below hb, rfl⟩)⟩),
                (fun QQ aa ww own hS hBg fr kn => .inl ⟨kn.1, fun K hK => wp_value (kn_n (c := true) Hhb69 (cmp_ne (m := P.proto) (n := protoK false) rfl kn.2.1 kn.2.2.1)) (hK _ _ ⟨Touch.refl _ _, rfl⟩)⟩),
                (fun QQ aa ww own hS hBg fr kn => .inl ⟨trivial, fun K hK => wp_value (exec_pickF (v := .bool true) rfl kn.1 kn.2.1) (hK _ _ ⟨Touch.refl _ _, rfl⟩)⟩),
                trivial⟩ ?_
            intro vs own w99 hB99 hsz kn inj
            have e28 : vs 28 = .bool true := kn.1
            clear kn inj hsz
            simp only [putAll, Act.put, List.setIfInBounds_toArray, List.set_cons_zero, List.set_cons_succ, e28]
            clear e28
            have s100 := s12.kept hB99
            clear s12
            have s101 := s13.kept hB99
            clear s13
            have hbt102 := hbt14.trans (hB99.mono hbt14.size)
            clear hbt14
            clear hB99
            go_wp2_with (refine wl_value rfl (exec_bdMs0 rfl) ?_; refine Hid.out ?_)
            refine Hid.mk ?_
            go_wp2_with (refine st_stO (V := msV ms0) (g := g4) rfl rfl isMs (msV_one _) s101 rfl rfl ?_; intro w103 s103 ho103; refine Hid.out ?_)
            refine Hid.mk ?_
            clear s101
            have s104 := s100.only ho103 hn5
            clear s100
            have hbt105 := hbt102.trans (ho103.below hz6)
            clear hbt102
            clear ho103
            go_wp2_with fail
            have hC : msgC P = false := by unfold msgC; rw [off_eq Hhb9.out]; (try simp only [Hhb9.out, Hhb23.out, Hhb69.out]) <;> simp [Hhb9.out, Hhb23.out, Hhb69.out, Hhb15.out, Hhb31.out]
            have hB : msgB P = false := by unfold msgB; rw [hC]; rfl
            have hM : msgM P = ms0 := by unfold msgM; rw [if_neg (by rw [hC]; decide)]
            refine bodyPost_ret (res_ct rfl isMs s103 (by rfl) (by rfl)) rfl ?_
            exact ⟨Eq.trans (rfl : _ = Ending.returned (.tuple #[.agg (SC 4 (msV ms0)), .bool false])) (by rw [← HRV.out, hB, hM]), hbt105⟩
  · have Hhb9 := Hid.mk hb9
    clear hb9
    have HC106 : Hid (Calls Tryd.prog 71 #[.agg (SC 46 (pkV P vx))] w4 fun e w' => e = .returned (.bool false) ∧ Below w4.heap.size w4 w') := Hid.mk (by have h := rRight_run P vx w4 (ExAt.kept HX.out hbt8) HP.out.ne HP.out.be; rw [Hhb9.out] at h; exact h)
    go_wp2_with (refine wl_cal en_aditref13_Right HC106 rfl rfl (args1 rfl) ?_; intro w107 hB107; refine Hid.out ?_)
    refine Hid.mk ?_
    clear HC106
    have s108 := s7.kept hB107
    clear s7
    have s109 := s4.kept hB107
    clear s4
    have hbt110 := hbt8.trans (hB107.mono hbt8.size)
    clear hbt8
    clear hB107
    go_upto_region 2 with fail
    refine wp_region3 (Below w107.heap.size w107) w107.heap.size
        ([] : List (Nat × Cont))
        [kv (.bool false), kv (.bool true), kv (.bool true), kv (undef), kv (undef), kv (.bool true), kv (.bool true), kv (undef), kv (undef), kv (undef), kv (.bool true), kv (.bool true), kv (undef), kv (undef), kv (undef), kv (undef), kv (undef), kv (undef), kv (undef), kv (.bool true)]
        [.none, .none, .none, .none, .none, .none, .none, .none, .none, .none, .none, .none, .none, .none, .none, .none, .none, .none, .none, .none]
        [some 9, some 10, some 11, some 12, some 13, some 14, some 15, some 16, some 17, some 18, some 19, some 20, some 21, some 22, some 23, some 24, some 25, some 26, some 27, some 28]
        [(4, .bool false), (1, .pointer (some ⟨g1, 0, none⟩))]
        [[], [.slot 0], [.slot 1], [.slot 2], [.slot 2], [.slot 2, .slot 4], [.slot 5], [.slot 6], [.slot 6], [.slot 6], [.slot 6, .slot 9], [.slot 10], [.slot 11], [.slot 11], [.slot 11], [.slot 11], [.slot 11], [.slot 11], [.slot 11], [.slot 11, .slot 18]]
        [.slot 19] [9, 10, 11, 12, 13, 14, 15, 16, 17, 18, 19, 20, 21, 22, 23, 24, 25, 26, 27, 28]
        rfl (by kernel_rfl) ⟨rfl, rfl, trivial⟩ ((Below.refl _ w107).drew) (Nat.le_refl _) trivial trivial (below_GcW (Nat.le_refl _))
        ⟨
        (fun QQ aa ww own hS hBg fr kn => .inl ⟨trivial, fun K hK => wp_value (exec_move rfl fr.1) (hK _ _ ⟨Touch.refl _ _, rfl⟩)⟩),
        (fun QQ aa ww own hS hBg fr kn => .inl ⟨trivial, fun K hK => wp_value (exec_notB rfl kn.1) (hK _ _ ⟨Touch.refl _ _, rfl⟩)⟩),
        (fun QQ aa ww own hS hBg fr kn => .inl ⟨trivial, fun K hK => wp_value (exec_move rfl kn.1) (hK _ _ ⟨Touch.refl _ _, rfl⟩)⟩),
        (fun QQ aa ww own hS hBg fr kn => .inr ⟨.inl kn.1, Touch.refl _ _, rfl⟩),
        (fun QQ aa ww own hS hBg fr kn => .inr ⟨.inl kn.1, Touch.refl _ _, rfl⟩),
        (fun QQ aa ww own hS hBg fr kn => .inl ⟨trivial, fun K hK => wp_value (exec_pick (v := .bool true) rfl kn.1 rfl) (hK _ _ ⟨Touch.refl _ _, rfl⟩)⟩),
        (fun QQ aa ww own hS hBg fr kn => .inl ⟨trivial, fun K hK => wp_value (exec_move rfl kn.1) (hK _ _ ⟨Touch.refl _ _, rfl⟩)⟩),
        (fun QQ aa ww own hS hBg fr kn => .inr ⟨.inl kn.1, Touch.refl _ _, rfl⟩),
        (fun QQ aa ww own hS hBg fr kn => .inr ⟨.inl kn.1, Touch.refl _ _, rfl⟩),
        (fun QQ aa ww own hS hBg fr kn => .inr ⟨.inl kn.1, Touch.refl _ _, rfl⟩),
        (fun QQ aa ww own hS hBg fr kn => .inl ⟨trivial, fun K hK => wp_value (exec_pick (v := .bool true) rfl kn.1 rfl) (hK _ _ ⟨Touch.refl _ _, rfl⟩)⟩),
        (fun QQ aa ww own hS hBg fr kn => .inl ⟨trivial, fun K hK => wp_value (exec_move rfl kn.1) (hK _ _ ⟨Touch.refl _ _, rfl⟩)⟩),
        (fun QQ aa ww own hS hBg fr kn => .inr ⟨.inl kn.1, Touch.refl _ _, rfl⟩),
        (fun QQ aa ww own hS hBg fr kn => .inr ⟨.inl kn.1, Touch.refl _ _, rfl⟩),
        (fun QQ aa ww own hS hBg fr kn => .inr ⟨.inl kn.1, Touch.refl _ _, rfl⟩),
        (fun QQ aa ww own hS hBg fr kn => .inr ⟨.inl kn.1, Touch.refl _ _, rfl⟩),
        (fun QQ aa ww own hS hBg fr kn => .inr ⟨.inl kn.1, Touch.refl _ _, rfl⟩),
        (fun QQ aa ww own hS hBg fr kn => .inr ⟨.inl kn.1, Touch.refl _ _, rfl⟩),
        (fun QQ aa ww own hS hBg fr kn => .inr ⟨.inl kn.1, Touch.refl _ _, rfl⟩),
        (fun QQ aa ww own hS hBg fr kn => .inl ⟨trivial, fun K hK => wp_value (exec_pick (v := .bool true) rfl kn.1 rfl) (hK _ _ ⟨Touch.refl _ _, rfl⟩)⟩),
        trivial⟩ ?_
    intro vs own w111 hB111 hsz kn inj
    have e28 : vs 28 = .bool true := kn.1
    clear kn inj hsz
    simp only [putAll, Act.put, List.setIfInBounds_toArray, List.set_cons_zero, List.set_cons_succ, e28]
    clear e28
    have s112 := s108.kept hB111
    clear s108
    have s113 := s109.kept hB111
    clear s109
    have hbt114 := hbt110.trans (hB111.mono hbt110.size)
    clear hbt110
    clear hB111
    go_wp2_with (refine wl_value rfl (exec_bdMs0 rfl) ?_; refine Hid.out ?_)
    refine Hid.mk ?_
    go_wp2_with (refine st_stO (V := msV ms0) (g := g4) rfl rfl isMs (msV_one _) s113 rfl rfl ?_; intro w115 s115 ho115; refine Hid.out ?_)
    refine Hid.mk ?_
    clear s113
    have s116 := s112.only ho115 hn5
    clear s112
    have hbt117 := hbt114.trans (ho115.below hz6)
    clear hbt114
    clear ho115
    go_wp2_with fail
    have hC : msgC P = false := by unfold msgC; simp [Hhb9.out]
    have hB : msgB P = false := by unfold msgB; rw [hC]; rfl
    have hM : msgM P = ms0 := by unfold msgM; rw [if_neg (by rw [hC]; decide)]
    refine bodyPost_ret (res_ct rfl isMs s115 (by rfl) (by rfl)) rfl ?_
    exact ⟨Eq.trans (rfl : _ = Ending.returned (.tuple #[.agg (SC 4 (msV ms0)), .bool false])) (by rw [← HRV.out, hB, hM]), hbt117⟩
end Go.Proofs.YtojekoakgpkkdaaDoor

