/-
  Own text. What plusWord, fold and least of package field answer, for every four words: contracts over the translation.
-/
import Derived.Test.YtgklkkjhoecdoaaDoorProg
import Derived.Test.YtgklkkjhoecdoaaDoorNum
import Derived.WalkKit
import Derived.WalkSpells
import Derived.WalkLawsBesides
import Derived.Laws.Externs
import Derived.Laws.MathBits
namespace Go.Proofs.YtgklkkjhoecdoaaDoor
open Go.RowKit Go.Proofs
theorem bcell {W w1 : World} (hb : Below W.heap.size W w1) : (∀ b o, b < W.heap.size → w1.cell? ⟨b, o, none⟩ = W.cell? ⟨b, o, none⟩) ∧ (∀ b o, b < W.heap.size → w1.frozen? ⟨b, o, none⟩ = W.frozen? ⟨b, o, none⟩) :=
  ⟨fun b o h => hb.cell (p := ⟨b, o, none⟩) h, fun b o h => hb.frozen (p := ⟨b, o, none⟩) h⟩
theorem and_low63 (z : Int) (h0 : 0 ≤ z) (h1 : z < 18446744073709551616) : bits .and .u64 z 9223372036854775807 = z % 9223372036854775808 := by go_bits2
theorem top19 (z : Int) (h : U64 z) : IntKind.u64.wrap (19 * (z / 9223372036854775808)) = 19 * (z / 9223372036854775808) := by
  unfold U64 at h; rw [IntKind.wrap_u64]; omega
theorem u64_mod63 (z : Int) : U64 (z % 9223372036854775808) := by unfold U64; omega
theorem u64_top19 {z : Int} (h : U64 z) : U64 (19 * (z / 9223372036854775808)) := by unfold U64 at *; omega
theorem u64_19 : U64 19 := by unfold U64; omega
theorem Hid.mk {p : Prop} (h : p) : Hid p := h
theorem add64_run (x y c : Int) (hx : U64 x) (hy : U64 y) (hc : Bit c) (w : World) :
    ∃ lo hi, Sum3 x y c lo hi ∧ (callFunc 38 #[.int .u64 x, .int .u64 y, .int .u64 c]).run Tryd.prog w =
      .ok (.value (.tuple #[.int .u64 lo, .int .u64 hi])) w := by
  unfold U64 at hx hy
  unfold Bit at hc
  refine ⟨(x + y + c) % 18446744073709551616, (x + y + c) / 18446744073709551616, ⟨⟨?_, ?_⟩, ?_, ?_⟩, ?_⟩
  · omega
  · omega
  · unfold Bit; omega
  · omega
  rw [run_callFunc_extern Tryd.func38 (by kernel_rfl) (by kernel_rfl) (by kernel_rfl) (e := add64Entry) (by kernel_rfl), run_add64 x y c (by omega) (by omega) (by omega) (by omega)]
  rfl
theorem add64_upon {o : Oper} {a : Act} {next : Act → World → Prop} {Q : Exit → Act → World → Prop} {x y c : Int} {w : World}
    (hx : U64 x) (hy : U64 y) (hc : Bit c) (h : ∀ lo hi, Sum3 x y c lo hi → U64 lo → U64 hi → Bit hi → next (a.put o.dst (.tuple #[.int .u64 lo, .int .u64 hi])) w) :
    o.upon Tryd.prog a next Q ((callFunc 38 #[.int .u64 x, .int .u64 y, .int .u64 c]).run Tryd.prog w) := by
  obtain ⟨lo, hi, hs, e⟩ := add64_run x y c hx hy hc w
  rw [e]
  exact h lo hi hs hs.lo hs.hi.u64 hs.hi
set_option maxHeartbeats 1000000 in
theorem plusWord_any (x0 x1 x2 x3 n : Int) (w : World) (h0 : U64 x0) (h1 : U64 x1) (h2 : U64 x2) (h3 : U64 x3) (hn : U64 n) :
    Calls Tryd.prog 46 #[.agg #[.int .u64 x0, .int .u64 x1, .int .u64 x2, .int .u64 x3], .int .u64 n] w fun e w' =>
      ∃ y0 y1 y2 y3 c, U64 y0 ∧ U64 y1 ∧ U64 y2 ∧ U64 y3 ∧ Bit c ∧ V4 y0 y1 y2 y3 + W256 * c = V4 x0 x1 x2 x3 + n ∧
        e = .returned (.tuple #[.agg #[.int .u64 y0, .int .u64 y1, .int .u64 y2, .int .u64 y3], .int .u64 c]) ∧
        w' = (w.alloc (.cells #[.int .u64 y0, .int .u64 y1, .int .u64 y2, .int .u64 y3] 38)).alloc (.cells #[.int .u64 y0, .int .u64 y1, .int .u64 y2, .int .u64 y3] 38) := by
  have hb0 := bit0
  go_enter Tryd.func46, Tryd.ntmps46
  go_wp2
  refine wp_loop_rounds 5 ?_
  rw [rounds_succ]
  go_wp2
  refine add64_upon (by assumption) (by assumption) (by assumption) ?_
  intro y0 c0 s0 l0 k0 b0
  go_wp2
  rw [rounds_succ]
  go_wp2
  refine add64_upon (by assumption) (by assumption) (by assumption) ?_
  intro y1 c1 s1 l1 k1 b1
  go_wp2
  rw [rounds_succ]
  go_wp2
  refine add64_upon (by assumption) (by assumption) (by assumption) ?_
  intro y2 c2 s2 l2 k2 b2
  go_wp2
  rw [rounds_succ]
  go_wp2
  refine add64_upon (by assumption) (by assumption) (by assumption) ?_
  intro y3 c3 s3 l3 k3 b3
  go_wp2
  rw [rounds_succ]
  go_wp2
  exact bodyPost_ret (v := .tuple #[.agg #[.int .u64 y0, .int .u64 y1, .int .u64 y2, .int .u64 y3], .int .u64 c3]) (by simp [results, Tryd.results46, go_sem]) rfl
    ⟨y0, y1, y2, y3, c3, l0, l1, l2, l3, b3, plusWord_num s0 s1 s2 s3, rfl, rfl⟩
set_option maxHeartbeats 1000000 in
theorem fold_any (x0 x1 x2 x3 n : Int) (w : World) (h0 : U64 x0) (h1 : U64 x1) (h2 : U64 x2) (h3 : U64 x3) (hn : 0 ≤ n) (hn2 : n ≤ 38) :
    Calls Tryd.prog 39 #[.agg #[.int .u64 x0, .int .u64 x1, .int .u64 x2, .int .u64 x3], .int .u64 n] w fun e w' =>
      ∃ y0 y1 y2 y3, U64 y0 ∧ U64 y1 ∧ U64 y2 ∧ U64 y3 ∧ (∃ k : Int, V4 y0 y1 y2 y3 = V4 x0 x1 x2 x3 + W256 * n + k * P255) ∧
        e = .returned (.agg #[.int .u64 y0, .int .u64 y1, .int .u64 y2, .int .u64 y3]) ∧ Below w.heap.size w w' := by
  go_enter Tryd.func39, Tryd.ntmps39
  go_wp2_with fail
  refine (plusWord_any _ _ _ _ _ _ h0 h1 h2 h3 (by unfold U64; omega)).mono ?_
  rintro e w1 ⟨y0, y1, y2, y3, a, hy0, hy1, hy2, hy3, ha, e1, rfl, rfl⟩
  have E1 : Hid (V4 y0 y1 y2 y3 + W256 * a = V4 x0 x1 x2 x3 + 38 * n) := e1
  clear e1
  have ha0 : 0 ≤ a := by unfold Bit at ha; omega
  have ha1 : a ≤ 1 := by unfold Bit at ha; omega
  go_wp2_with fail
  refine (plusWord_any _ _ _ _ _ _ hy0 hy1 hy2 hy3 (by unfold U64; omega)).mono ?_
  rintro e w1 ⟨z0, z1, z2, z3, b, hz0, hz1, hz2, hz3, hb, e2, rfl, rfl⟩
  have E2 : Hid (V4 z0 z1 z2 z3 + W256 * b = V4 y0 y1 y2 y3 + 38 * a) := e2
  clear e2
  go_wp2
  refine bodyPost_ret (v := .agg #[.int .u64 z0, .int .u64 z1, .int .u64 z2, .int .u64 z3]) (by simp [results, Tryd.results39, go_sem]) rfl
    ⟨z0, z1, z2, z3, hz0, hz1, hz2, hz3, fold_num (V4_range h0 h1 h2 h3) (V4_range hy0 hy1 hy2 hy3) (V4_range hz0 hz1 hz2 hz3) hn hn2 ha E1.out E2.out, rfl, ?_⟩
  repeat first | exact Below.refl _ _ | refine Below.alloc ?_ (by simp <;> omega) _
set_option maxHeartbeats 1000000 in
theorem least_any (x0 x1 x2 x3 : Int) (w : World) (h0 : U64 x0) (h1 : U64 x1) (h2 : U64 x2) (h3 : U64 x3) :
    Calls Tryd.prog 37 #[.agg #[.int .u64 x0, .int .u64 x1, .int .u64 x2, .int .u64 x3]] w fun e w' =>
      ∃ y0 y1 y2 y3, U64 y0 ∧ U64 y1 ∧ U64 y2 ∧ U64 y3 ∧ V4 y0 y1 y2 y3 = V4 x0 x1 x2 x3 % P255 ∧
        e = .returned (.agg #[.int .u64 y0, .int .u64 y1, .int .u64 y2, .int .u64 y3]) ∧ Below w.heap.size w w' := by
  have m3 := and_low63 x3 h3.1 h3.2
  have t3 := top19 x3 h3
  go_enter Tryd.func37, Tryd.ntmps37
  go_wp2_with fail
  refine (plusWord_any _ _ _ _ _ _ h0 h1 h2 (u64_mod63 x3) (u64_top19 h3)).mono ?_
  rintro e w1 ⟨y0, y1, y2, y3, a, hy0, hy1, hy2, hy3, ha, e1, rfl, rfl⟩
  have E1 := Hid.mk e1
  clear e1
  go_wp2_with fail
  refine (plusWord_any _ _ _ _ _ _ hy0 hy1 hy2 hy3 u64_19).mono ?_
  rintro e w1 ⟨r0, r1, r2, r3, b, hr0, hr1, hr2, hr3, hb, e2, rfl, rfl⟩
  have E2 := Hid.mk e2
  clear e2
  have tr := top19 r3 hr3
  go_wp2_with fail
  refine (plusWord_any _ _ _ _ _ _ hy0 hy1 hy2 hy3 (u64_top19 hr3)).mono ?_
  rintro e w1 ⟨z0, z1, z2, z3, c, hz0, hz1, hz2, hz3, hc, e3, rfl, rfl⟩
  have E3 := Hid.mk e3
  clear e3
  have mz := and_low63 z3 hz3.1 hz3.2
  go_wp2
  refine bodyPost_ret (v := .agg #[.int .u64 z0, .int .u64 z1, .int .u64 z2, .int .u64 (z3 % 9223372036854775808)]) (by simp [results, Tryd.results37, go_sem]) rfl
    ⟨z0, z1, z2, _, hz0, hz1, hz2, u64_mod63 z3, least_num h0 h1 h2 h3 hy0 hy1 hy2 hy3 hr0 hr1 hr2 hr3 hz0 hz1 hz2 hz3 ha hb hc E1.out E2.out E3.out, rfl, ?_⟩
  repeat first | exact Below.refl _ _ | refine Below.alloc ?_ (by simp <;> omega) _
end Go.Proofs.YtgklkkjhoecdoaaDoor
