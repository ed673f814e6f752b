/-
  Own text. What times of package field answers, for every two numbers of four words: a contract over the translation.
-/
import Derived.Test.YtgklkkjhoecdoaaDoorF7
import Derived.Test.YtgklkkjhoecdoaaDoorMix
namespace Go.Proofs.YtgklkkjhoecdoaaDoor
open Go.RowKit Go.Proofs
theorem wrap64_1 : IntKind.i64.wrap 1 = 1 := by decide +kernel
theorem wrap64_2 : IntKind.i64.wrap 2 = 2 := by decide +kernel
theorem wrap64_3 : IntKind.i64.wrap 3 = 3 := by decide +kernel
theorem wrap64_4 : IntKind.i64.wrap 4 = 4 := by decide +kernel
theorem wrap64_5 : IntKind.i64.wrap 5 = 5 := by decide +kernel
theorem wrap64_6 : IntKind.i64.wrap 6 = 6 := by decide +kernel
theorem wrap64_7 : IntKind.i64.wrap 7 = 7 := by decide +kernel
attribute [local go_sem] wrap_0 wrap64_1 wrap64_2 wrap64_3 wrap64_4 wrap64_5 wrap64_6 wrap64_7
theorem mul_V4 (x a b c d : Int) : x * V4 a b c d = V4 (x * a) (x * b) (x * c) (x * d) := by unfold V4; grind
theorem V4_mul (x a b c d : Int) : V4 a b c d * x = V4 (a * x) (b * x) (c * x) (d * x) := by unfold V4; grind
theorem row_num {x y0 y1 y2 y3 w0 w1 w2 w3 p0 p1 p2 p3 c0 c1 c2 c3 : Int} (s0 : Prod4 w0 0 x y0 p0 c0) (s1 : Prod4 w1 c0 x y1 p1 c1) (s2 : Prod4 w2 c1 x y2 p2 c2) (s3 : Prod4 w3 c2 x y3 p3 c3) :
    V4 p0 p1 p2 p3 + W256 * c3 = V4 w0 w1 w2 w3 + x * V4 y0 y1 y2 y3 := by
  rw [mul_V4]
  unfold Prod4 at s0 s1 s2 s3
  unfold V4 W256
  omega
theorem times_num {X0 X1 X2 X3 Y p00 p01 p02 p03 c03 p10 p11 p12 p13 c13 p20 p21 p22 p23 c23 p30 p31 p32 p33 c33 : Int}
    (r0 : V4 p00 p01 p02 p03 + W256 * c03 = V4 0 0 0 0 + X0 * Y) (r1 : V4 p10 p11 p12 p13 + W256 * c13 = V4 p01 p02 p03 c03 + X1 * Y)
    (r2 : V4 p20 p21 p22 p23 + W256 * c23 = V4 p11 p12 p13 c13 + X2 * Y) (r3 : V4 p30 p31 p32 p33 + W256 * c33 = V4 p21 p22 p23 c23 + X3 * Y) :
    V4 p00 p10 p20 p30 + W256 * V4 p31 p32 p33 c33 = V4 X0 X1 X2 X3 * Y := by
  rw [V4_mul]
  generalize X0 * Y = a0 at *
  generalize X1 * Y = a1 at *
  generalize X2 * Y = a2 at *
  generalize X3 * Y = a3 at *
  unfold V4 W256 at *
  omega
theorem low_num {a0 a1 a2 a3 b0 b1 b2 b3 l0 l1 l2 l3 d0 d1 d2 d3 : Int} (s0 : Prod4 a0 0 b0 38 l0 d0) (s1 : Prod4 a1 d0 b1 38 l1 d1) (s2 : Prod4 a2 d1 b2 38 l2 d2) (s3 : Prod4 a3 d2 b3 38 l3 d3) :
    V4 l0 l1 l2 l3 + W256 * d3 = V4 a0 a1 a2 a3 + 38 * V4 b0 b1 b2 b3 := by
  unfold Prod4 at s0 s1 s2 s3
  unfold V4 W256
  omega
theorem carry_le {L A B d : Int} (hL : 0 ≤ L ∧ L < W256) (hA : 0 ≤ A ∧ A < W256) (hB : 0 ≤ B ∧ B < W256) (e : L + W256 * d = A + 38 * B) : 0 ≤ d ∧ d ≤ 38 := by
  unfold W256 at *; omega
theorem times_end {Z L A B d XY k : Int} (e1 : A + W256 * B = XY) (e2 : L + W256 * d = A + 38 * B) (e3 : Z = L + W256 * d + k * P255) : Z = XY + (k - 2 * B) * P255 := by
  unfold W256 P255 at *; omega
theorem u64_38 : U64 38 := by unfold U64; omega
def tF9 (i : Nat) : Nat := [2, 2, 2, 2, 2, 2, 2, 1, 2, 2, 2, 1, 2, 2, 1, 0, 2, 2, 2, 2, 0, 2].getD i 2
def tT9 (i : Nat) : Bool := i != 20
def tF18 (i : Nat) : Nat := [2, 2, 2, 1, 2, 2, 2, 2, 1, 0, 2, 2, 2, 2, 0, 2].getD i 2
def tT18 (i : Nat) : Bool := i != 14
theorem heap_a35 (w : World) (A B C D E : Obj) : (((((w.alloc A).alloc B).alloc C).alloc D).alloc E).heap[w.heap.size + 1 + 1]? = some C := by
  rw [Below.heap_alloc _ _ _ (by simp <;> omega), Below.heap_alloc _ _ _ (by simp <;> omega)]
  exact heap_a3 w A B C
set_option maxHeartbeats 8000000 in
theorem times_any (x0 x1 x2 x3 y0 y1 y2 y3 : Int) (w : World) (h0 : U64 x0) (h1 : U64 x1) (h2 : U64 x2) (h3 : U64 x3) (k0 : U64 y0) (k1 : U64 y1) (k2 : U64 y2) (k3 : U64 y3) :
    Calls Tryd.prog 31 #[.agg #[.int .u64 x0, .int .u64 x1, .int .u64 x2, .int .u64 x3], .agg #[.int .u64 y0, .int .u64 y1, .int .u64 y2, .int .u64 y3]] w fun e w' =>
      ∃ z0 z1 z2 z3, U64 z0 ∧ U64 z1 ∧ U64 z2 ∧ U64 z3 ∧ (∃ k : Int, V4 z0 z1 z2 z3 = V4 x0 x1 x2 x3 * V4 y0 y1 y2 y3 + k * P255) ∧
        e = .returned (.agg #[.int .u64 z0, .int .u64 z1, .int .u64 z2, .int .u64 z3]) ∧ Below w.heap.size w w' := by
  obtain ⟨p00, c00, s00, r00⟩ := plusProduct_all u64_0 u64_0 h0 k0
  have R00 := Hid.mk r00
  clear r00
  obtain ⟨p01, c01, s01, r01⟩ := plusProduct_all u64_0 s00.hi h0 k1
  have R01 := Hid.mk r01
  clear r01
  obtain ⟨p02, c02, s02, r02⟩ := plusProduct_all u64_0 s01.hi h0 k2
  have R02 := Hid.mk r02
  clear r02
  obtain ⟨p03, c03, s03, r03⟩ := plusProduct_all u64_0 s02.hi h0 k3
  have R03 := Hid.mk r03
  clear r03
  obtain ⟨p10, c10, s10, r10⟩ := plusProduct_all s01.lo u64_0 h1 k0
  have R10 := Hid.mk r10
  clear r10
  obtain ⟨p11, c11, s11, r11⟩ := plusProduct_all s02.lo s10.hi h1 k1
  have R11 := Hid.mk r11
  clear r11
  obtain ⟨p12, c12, s12, r12⟩ := plusProduct_all s03.lo s11.hi h1 k2
  have R12 := Hid.mk r12
  clear r12
  obtain ⟨p13, c13, s13, r13⟩ := plusProduct_all s03.hi s12.hi h1 k3
  have R13 := Hid.mk r13
  clear r13
  obtain ⟨p20, c20, s20, r20⟩ := plusProduct_all s11.lo u64_0 h2 k0
  have R20 := Hid.mk r20
  clear r20
  obtain ⟨p21, c21, s21, r21⟩ := plusProduct_all s12.lo s20.hi h2 k1
  have R21 := Hid.mk r21
  clear r21
  obtain ⟨p22, c22, s22, r22⟩ := plusProduct_all s13.lo s21.hi h2 k2
  have R22 := Hid.mk r22
  clear r22
  obtain ⟨p23, c23, s23, r23⟩ := plusProduct_all s13.hi s22.hi h2 k3
  have R23 := Hid.mk r23
  clear r23
  obtain ⟨p30, c30, s30, r30⟩ := plusProduct_all s21.lo u64_0 h3 k0
  have R30 := Hid.mk r30
  clear r30
  obtain ⟨p31, c31, s31, r31⟩ := plusProduct_all s22.lo s30.hi h3 k1
  have R31 := Hid.mk r31
  clear r31
  obtain ⟨p32, c32, s32, r32⟩ := plusProduct_all s23.lo s31.hi h3 k2
  have R32 := Hid.mk r32
  clear r32
  obtain ⟨p33, c33, s33, r33⟩ := plusProduct_all s23.hi s32.hi h3 k3
  have R33 := Hid.mk r33
  clear r33
  obtain ⟨l0, d0, t0, q0⟩ := plusProduct_all s00.lo u64_0 s31.lo u64_38
  have T0 := Hid.mk q0
  clear q0
  obtain ⟨l1, d1, t1, q1⟩ := plusProduct_all s10.lo t0.hi s32.lo u64_38
  have T1 := Hid.mk q1
  clear q1
  obtain ⟨l2, d2, t2, q2⟩ := plusProduct_all s20.lo t1.hi s33.lo u64_38
  have T2 := Hid.mk q2
  clear q2
  obtain ⟨l3, d3, t3, q3⟩ := plusProduct_all s30.lo t2.hi s33.hi u64_38
  have T3 := Hid.mk q3
  clear q3
  have e1 := times_num (row_num s00 s01 s02 s03) (row_num s10 s11 s12 s13) (row_num s20 s21 s22 s23) (row_num s30 s31 s32 s33)
  have e2 := low_num t0 t1 t2 t3
  have hc := carry_le (V4_range t0.lo t1.lo t2.lo t3.lo) (V4_range s00.lo s10.lo s20.lo s30.lo) (V4_range s31.lo s32.lo s33.lo s33.hi) e2
  have hc0 := hc.1
  have hc1 := hc.2
  have E1 := Hid.mk e1
  have E2 := Hid.mk e2
  clear e1 e2 hc
  go_enter Tryd.func31, Tryd.ntmps31
  go_wp2
  refine wp_loop_rounds 5 ?_
  rw [rounds_succ]
  go_wp2
  refine wp_loop_rounds 5 ?_
  rw [rounds_succ]
  go_wp2
  refine wp_region_mixS (fun w' => w'.cell? ⟨w.heap.size + 1 + 1 + 1, 0, none⟩ = some (.int .u64 0) ∧ w'.cell? ⟨w.heap.size, 0, none⟩ = some (.int .u64 x0) ∧ w'.cell? ⟨w.heap.size + 1, 0, none⟩ = some (.int .u64 y0))
    tF9 tT9 [0, 1, 2, 3, 4, 5, 6, 7, 8, 9, 10, 11, 12, 13, 14, 15, 16, 17, 18, 19, 20, 21] rfl (by kernel_rfl) (fun _ _ d _ _ h => by cases d <;> exact h) (by refine ⟨?_, ?_, ?_⟩ <;> go_simp) (fun HS => ?_)
  iterate 15
    first
      | (apply mix_pure rfl rfl rfl; focus (intro wq; go_simp; first | done | with_reducible rfl))
      | (apply mix_look rfl rfl rfl HS; focus (intro wq hq; go_simp; first | done | with_reducible rfl))
    simp only [Act.put, List.setIfInBounds_toArray, List.set_cons_zero, List.set_cons_succ]
  refine mix_act rfl rfl rfl ?_
  intro K hK
  go_simp
  refine (R00.out _).mono ?_
  rintro e w' ⟨rfl, rfl⟩
  refine hK _ _ (fun _ h => h) ?_
  clear hK K HS
  iterate 4
    apply mix_pure rfl rfl rfl
    focus (intro wq; go_simp; first | done | with_reducible rfl)
    simp only [Act.put, List.setIfInBounds_toArray, List.set_cons_zero, List.set_cons_succ]
  refine mix_act rfl rfl rfl ?_
  intro K hK
  go_simp
  refine hK _ _ (fun h => by cases h) ?_
  clear hK K
  apply mix_pure rfl rfl rfl
  focus (intro wq; go_simp; first | done | with_reducible rfl)
  simp only [Act.put, List.setIfInBounds_toArray, List.set_cons_zero, List.set_cons_succ]
  refine mix_done ?_
  go_wp2
  rw [rounds_succ]
  go_wp2
  refine wp_region_mixS (fun w' => w'.cell? ⟨w.heap.size + 1 + 1 + 1, 1, none⟩ = some (.int .u64 0) ∧ w'.cell? ⟨w.heap.size, 0, none⟩ = some (.int .u64 x0) ∧ w'.cell? ⟨w.heap.size + 1, 1, none⟩ = some (.int .u64 y1))
    tF9 tT9 [0, 1, 2, 3, 4, 5, 6, 7, 8, 9, 10, 11, 12, 13, 14, 15, 16, 17, 18, 19, 20, 21] rfl (by kernel_rfl) (fun _ _ d _ _ h => by cases d <;> exact h) (by refine ⟨?_, ?_, ?_⟩ <;> go_simp) (fun HS => ?_)
  iterate 15
    first
      | (apply mix_pure rfl rfl rfl; focus (intro wq; go_simp; first | done | with_reducible rfl))
      | (apply mix_look rfl rfl rfl HS; focus (intro wq hq; go_simp; first | done | with_reducible rfl))
    simp only [Act.put, List.setIfInBounds_toArray, List.set_cons_zero, List.set_cons_succ]
  refine mix_act rfl rfl rfl ?_
  intro K hK
  go_simp
  refine (R01.out _).mono ?_
  rintro e w' ⟨rfl, rfl⟩
  refine hK _ _ (fun _ h => h) ?_
  clear hK K HS
  iterate 4
    apply mix_pure rfl rfl rfl
    focus (intro wq; go_simp; first | done | with_reducible rfl)
    simp only [Act.put, List.setIfInBounds_toArray, List.set_cons_zero, List.set_cons_succ]
  refine mix_act rfl rfl rfl ?_
  intro K hK
  go_simp
  refine hK _ _ (fun h => by cases h) ?_
  clear hK K
  apply mix_pure rfl rfl rfl
  focus (intro wq; go_simp; first | done | with_reducible rfl)
  simp only [Act.put, List.setIfInBounds_toArray, List.set_cons_zero, List.set_cons_succ]
  refine mix_done ?_
  go_wp2
  rw [rounds_succ]
  go_wp2
  refine wp_region_mixS (fun w' => w'.cell? ⟨w.heap.size + 1 + 1 + 1, 2, none⟩ = some (.int .u64 0) ∧ w'.cell? ⟨w.heap.size, 0, none⟩ = some (.int .u64 x0) ∧ w'.cell? ⟨w.heap.size + 1, 2, none⟩ = some (.int .u64 y2))
    tF9 tT9 [0, 1, 2, 3, 4, 5, 6, 7, 8, 9, 10, 11, 12, 13, 14, 15, 16, 17, 18, 19, 20, 21] rfl (by kernel_rfl) (fun _ _ d _ _ h => by cases d <;> exact h) (by refine ⟨?_, ?_, ?_⟩ <;> go_simp) (fun HS => ?_)
  iterate 15
    first
      | (apply mix_pure rfl rfl rfl; focus (intro wq; go_simp; first | done | with_reducible rfl))
      | (apply mix_look rfl rfl rfl HS; focus (intro wq hq; go_simp; first | done | with_reducible rfl))
    simp only [Act.put, List.setIfInBounds_toArray, List.set_cons_zero, List.set_cons_succ]
  refine mix_act rfl rfl rfl ?_
  intro K hK
  go_simp
  refine (R02.out _).mono ?_
  rintro e w' ⟨rfl, rfl⟩
  refine hK _ _ (fun _ h => h) ?_
  clear hK K HS
  iterate 4
    apply mix_pure rfl rfl rfl
    focus (intro wq; go_simp; first | done | with_reducible rfl)
    simp only [Act.put, List.setIfInBounds_toArray, List.set_cons_zero, List.set_cons_succ]
  refine mix_act rfl rfl rfl ?_
  intro K hK
  go_simp
  refine hK _ _ (fun h => by cases h) ?_
  clear hK K
  apply mix_pure rfl rfl rfl
  focus (intro wq; go_simp; first | done | with_reducible rfl)
  simp only [Act.put, List.setIfInBounds_toArray, List.set_cons_zero, List.set_cons_succ]
  refine mix_done ?_
  go_wp2
  rw [rounds_succ]
  go_wp2
  refine wp_region_mixS (fun w' => w'.cell? ⟨w.heap.size + 1 + 1 + 1, 3, none⟩ = some (.int .u64 0) ∧ w'.cell? ⟨w.heap.size, 0, none⟩ = some (.int .u64 x0) ∧ w'.cell? ⟨w.heap.size + 1, 3, none⟩ = some (.int .u64 y3))
    tF9 tT9 [0, 1, 2, 3, 4, 5, 6, 7, 8, 9, 10, 11, 12, 13, 14, 15, 16, 17, 18, 19, 20, 21] rfl (by kernel_rfl) (fun _ _ d _ _ h => by cases d <;> exact h) (by refine ⟨?_, ?_, ?_⟩ <;> go_simp) (fun HS => ?_)
  iterate 15
    first
      | (apply mix_pure rfl rfl rfl; focus (intro wq; go_simp; first | done | with_reducible rfl))
      | (apply mix_look rfl rfl rfl HS; focus (intro wq hq; go_simp; first | done | with_reducible rfl))
    simp only [Act.put, List.setIfInBounds_toArray, List.set_cons_zero, List.set_cons_succ]
  refine mix_act rfl rfl rfl ?_
  intro K hK
  go_simp
  refine (R03.out _).mono ?_
  rintro e w' ⟨rfl, rfl⟩
  refine hK _ _ (fun _ h => h) ?_
  clear hK K HS
  iterate 4
    apply mix_pure rfl rfl rfl
    focus (intro wq; go_simp; first | done | with_reducible rfl)
    simp only [Act.put, List.setIfInBounds_toArray, List.set_cons_zero, List.set_cons_succ]
  refine mix_act rfl rfl rfl ?_
  intro K hK
  go_simp
  refine hK _ _ (fun h => by cases h) ?_
  clear hK K
  apply mix_pure rfl rfl rfl
  focus (intro wq; go_simp; first | done | with_reducible rfl)
  simp only [Act.put, List.setIfInBounds_toArray, List.set_cons_zero, List.set_cons_succ]
  refine mix_done ?_
  go_wp2
  rw [rounds_succ]
  go_wp2
  rw [rounds_succ]
  go_wp2
  refine wp_loop_rounds 5 ?_
  rw [rounds_succ]
  go_wp2
  refine wp_region_mixS (fun w' => w'.cell? ⟨w.heap.size + 1 + 1 + 1, 1, none⟩ = some (.int .u64 p01) ∧ w'.cell? ⟨w.heap.size, 1, none⟩ = some (.int .u64 x1) ∧ w'.cell? ⟨w.heap.size + 1, 0, none⟩ = some (.int .u64 y0))
    tF9 tT9 [0, 1, 2, 3, 4, 5, 6, 7, 8, 9, 10, 11, 12, 13, 14, 15, 16, 17, 18, 19, 20, 21] rfl (by kernel_rfl) (fun _ _ d _ _ h => by cases d <;> exact h) (by refine ⟨?_, ?_, ?_⟩ <;> go_simp) (fun HS => ?_)
  iterate 15
    first
      | (apply mix_pure rfl rfl rfl; focus (intro wq; go_simp; first | done | with_reducible rfl))
      | (apply mix_look rfl rfl rfl HS; focus (intro wq hq; go_simp; first | done | with_reducible rfl))
    simp only [Act.put, List.setIfInBounds_toArray, List.set_cons_zero, List.set_cons_succ]
  refine mix_act rfl rfl rfl ?_
  intro K hK
  go_simp
  refine (R10.out _).mono ?_
  rintro e w' ⟨rfl, rfl⟩
  refine hK _ _ (fun _ h => h) ?_
  clear hK K HS
  iterate 4
    apply mix_pure rfl rfl rfl
    focus (intro wq; go_simp; first | done | with_reducible rfl)
    simp only [Act.put, List.setIfInBounds_toArray, List.set_cons_zero, List.set_cons_succ]
  refine mix_act rfl rfl rfl ?_
  intro K hK
  go_simp
  refine hK _ _ (fun h => by cases h) ?_
  clear hK K
  apply mix_pure rfl rfl rfl
  focus (intro wq; go_simp; first | done | with_reducible rfl)
  simp only [Act.put, List.setIfInBounds_toArray, List.set_cons_zero, List.set_cons_succ]
  refine mix_done ?_
  go_wp2
  rw [rounds_succ]
  go_wp2
  refine wp_region_mixS (fun w' => w'.cell? ⟨w.heap.size + 1 + 1 + 1, 2, none⟩ = some (.int .u64 p02) ∧ w'.cell? ⟨w.heap.size, 1, none⟩ = some (.int .u64 x1) ∧ w'.cell? ⟨w.heap.size + 1, 1, none⟩ = some (.int .u64 y1))
    tF9 tT9 [0, 1, 2, 3, 4, 5, 6, 7, 8, 9, 10, 11, 12, 13, 14, 15, 16, 17, 18, 19, 20, 21] rfl (by kernel_rfl) (fun _ _ d _ _ h => by cases d <;> exact h) (by refine ⟨?_, ?_, ?_⟩ <;> go_simp) (fun HS => ?_)
  iterate 15
    first
      | (apply mix_pure rfl rfl rfl; focus (intro wq; go_simp; first | done | with_reducible rfl))
      | (apply mix_look rfl rfl rfl HS; focus (intro wq hq; go_simp; first | done | with_reducible rfl))
    simp only [Act.put, List.setIfInBounds_toArray, List.set_cons_zero, List.set_cons_succ]
  refine mix_act rfl rfl rfl ?_
  intro K hK
  go_simp
  refine (R11.out _).mono ?_
  rintro e w' ⟨rfl, rfl⟩
  refine hK _ _ (fun _ h => h) ?_
  clear hK K HS
  iterate 4
    apply mix_pure rfl rfl rfl
    focus (intro wq; go_simp; first | done | with_reducible rfl)
    simp only [Act.put, List.setIfInBounds_toArray, List.set_cons_zero, List.set_cons_succ]
  refine mix_act rfl rfl rfl ?_
  intro K hK
  go_simp
  refine hK _ _ (fun h => by cases h) ?_
  clear hK K
  apply mix_pure rfl rfl rfl
  focus (intro wq; go_simp; first | done | with_reducible rfl)
  simp only [Act.put, List.setIfInBounds_toArray, List.set_cons_zero, List.set_cons_succ]
  refine mix_done ?_
  go_wp2
  rw [rounds_succ]
  go_wp2
  refine wp_region_mixS (fun w' => w'.cell? ⟨w.heap.size + 1 + 1 + 1, 3, none⟩ = some (.int .u64 p03) ∧ w'.cell? ⟨w.heap.size, 1, none⟩ = some (.int .u64 x1) ∧ w'.cell? ⟨w.heap.size + 1, 2, none⟩ = some (.int .u64 y2))
    tF9 tT9 [0, 1, 2, 3, 4, 5, 6, 7, 8, 9, 10, 11, 12, 13, 14, 15, 16, 17, 18, 19, 20, 21] rfl (by kernel_rfl) (fun _ _ d _ _ h => by cases d <;> exact h) (by refine ⟨?_, ?_, ?_⟩ <;> go_simp) (fun HS => ?_)
  iterate 15
    first
      | (apply mix_pure rfl rfl rfl; focus (intro wq; go_simp; first | done | with_reducible rfl))
      | (apply mix_look rfl rfl rfl HS; focus (intro wq hq; go_simp; first | done | with_reducible rfl))
    simp only [Act.put, List.setIfInBounds_toArray, List.set_cons_zero, List.set_cons_succ]
  refine mix_act rfl rfl rfl ?_
  intro K hK
  go_simp
  refine (R12.out _).mono ?_
  rintro e w' ⟨rfl, rfl⟩
  refine hK _ _ (fun _ h => h) ?_
  clear hK K HS
  iterate 4
    apply mix_pure rfl rfl rfl
    focus (intro wq; go_simp; first | done | with_reducible rfl)
    simp only [Act.put, List.setIfInBounds_toArray, List.set_cons_zero, List.set_cons_succ]
  refine mix_act rfl rfl rfl ?_
  intro K hK
  go_simp
  refine hK _ _ (fun h => by cases h) ?_
  clear hK K
  apply mix_pure rfl rfl rfl
  focus (intro wq; go_simp; first | done | with_reducible rfl)
  simp only [Act.put, List.setIfInBounds_toArray, List.set_cons_zero, List.set_cons_succ]
  refine mix_done ?_
  go_wp2
  rw [rounds_succ]
  go_wp2
  refine wp_region_mixS (fun w' => w'.cell? ⟨w.heap.size + 1 + 1 + 1, 4, none⟩ = some (.int .u64 c03) ∧ w'.cell? ⟨w.heap.size, 1, none⟩ = some (.int .u64 x1) ∧ w'.cell? ⟨w.heap.size + 1, 3, none⟩ = some (.int .u64 y3))
    tF9 tT9 [0, 1, 2, 3, 4, 5, 6, 7, 8, 9, 10, 11, 12, 13, 14, 15, 16, 17, 18, 19, 20, 21] rfl (by kernel_rfl) (fun _ _ d _ _ h => by cases d <;> exact h) (by refine ⟨?_, ?_, ?_⟩ <;> go_simp) (fun HS => ?_)
  iterate 15
    first
      | (apply mix_pure rfl rfl rfl; focus (intro wq; go_simp; first | done | with_reducible rfl))
      | (apply mix_look rfl rfl rfl HS; focus (intro wq hq; go_simp; first | done | with_reducible rfl))
    simp only [Act.put, List.setIfInBounds_toArray, List.set_cons_zero, List.set_cons_succ]
  refine mix_act rfl rfl rfl ?_
  intro K hK
  go_simp
  refine (R13.out _).mono ?_
  rintro e w' ⟨rfl, rfl⟩
  refine hK _ _ (fun _ h => h) ?_
  clear hK K HS
  iterate 4
    apply mix_pure rfl rfl rfl
    focus (intro wq; go_simp; first | done | with_reducible rfl)
    simp only [Act.put, List.setIfInBounds_toArray, List.set_cons_zero, List.set_cons_succ]
  refine mix_act rfl rfl rfl ?_
  intro K hK
  go_simp
  refine hK _ _ (fun h => by cases h) ?_
  clear hK K
  apply mix_pure rfl rfl rfl
  focus (intro wq; go_simp; first | done | with_reducible rfl)
  simp only [Act.put, List.setIfInBounds_toArray, List.set_cons_zero, List.set_cons_succ]
  refine mix_done ?_
  go_wp2
  rw [rounds_succ]
  go_wp2
  rw [rounds_succ]
  go_wp2
  refine wp_loop_rounds 5 ?_
  rw [rounds_succ]
  go_wp2
  refine wp_region_mixS (fun w' => w'.cell? ⟨w.heap.size + 1 + 1 + 1, 2, none⟩ = some (.int .u64 p11) ∧ w'.cell? ⟨w.heap.size, 2, none⟩ = some (.int .u64 x2) ∧ w'.cell? ⟨w.heap.size + 1, 0, none⟩ = some (.int .u64 y0))
    tF9 tT9 [0, 1, 2, 3, 4, 5, 6, 7, 8, 9, 10, 11, 12, 13, 14, 15, 16, 17, 18, 19, 20, 21] rfl (by kernel_rfl) (fun _ _ d _ _ h => by cases d <;> exact h) (by refine ⟨?_, ?_, ?_⟩ <;> go_simp) (fun HS => ?_)
  iterate 15
    first
      | (apply mix_pure rfl rfl rfl; focus (intro wq; go_simp; first | done | with_reducible rfl))
      | (apply mix_look rfl rfl rfl HS; focus (intro wq hq; go_simp; first | done | with_reducible rfl))
    simp only [Act.put, List.setIfInBounds_toArray, List.set_cons_zero, List.set_cons_succ]
  refine mix_act rfl rfl rfl ?_
  intro K hK
  go_simp
  refine (R20.out _).mono ?_
  rintro e w' ⟨rfl, rfl⟩
  refine hK _ _ (fun _ h => h) ?_
  clear hK K HS
  iterate 4
    apply mix_pure rfl rfl rfl
    focus (intro wq; go_simp; first | done | with_reducible rfl)
    simp only [Act.put, List.setIfInBounds_toArray, List.set_cons_zero, List.set_cons_succ]
  refine mix_act rfl rfl rfl ?_
  intro K hK
  go_simp
  refine hK _ _ (fun h => by cases h) ?_
  clear hK K
  apply mix_pure rfl rfl rfl
  focus (intro wq; go_simp; first | done | with_reducible rfl)
  simp only [Act.put, List.setIfInBounds_toArray, List.set_cons_zero, List.set_cons_succ]
  refine mix_done ?_
  go_wp2
  rw [rounds_succ]
  go_wp2
  refine wp_region_mixS (fun w' => w'.cell? ⟨w.heap.size + 1 + 1 + 1, 3, none⟩ = some (.int .u64 p12) ∧ w'.cell? ⟨w.heap.size, 2, none⟩ = some (.int .u64 x2) ∧ w'.cell? ⟨w.heap.size + 1, 1, none⟩ = some (.int .u64 y1))
    tF9 tT9 [0, 1, 2, 3, 4, 5, 6, 7, 8, 9, 10, 11, 12, 13, 14, 15, 16, 17, 18, 19, 20, 21] rfl (by kernel_rfl) (fun _ _ d _ _ h => by cases d <;> exact h) (by refine ⟨?_, ?_, ?_⟩ <;> go_simp) (fun HS => ?_)
  iterate 15
    first
      | (apply mix_pure rfl rfl rfl; focus (intro wq; go_simp; first | done | with_reducible rfl))
      | (apply mix_look rfl rfl rfl HS; focus (intro wq hq; go_simp; first | done | with_reducible rfl))
    simp only [Act.put, List.setIfInBounds_toArray, List.set_cons_zero, List.set_cons_succ]
  refine mix_act rfl rfl rfl ?_
  intro K hK
  go_simp
  refine (R21.out _).mono ?_
  rintro e w' ⟨rfl, rfl⟩
  refine hK _ _ (fun _ h => h) ?_
  clear hK K HS
  iterate 4
    apply mix_pure rfl rfl rfl
    focus (intro wq; go_simp; first | done | with_reducible rfl)
    simp only [Act.put, List.setIfInBounds_toArray, List.set_cons_zero, List.set_cons_succ]
  refine mix_act rfl rfl rfl ?_
  intro K hK
  go_simp
  refine hK _ _ (fun h => by cases h) ?_
  clear hK K
  apply mix_pure rfl rfl rfl
  focus (intro wq; go_simp; first | done | with_reducible rfl)
  simp only [Act.put, List.setIfInBounds_toArray, List.set_cons_zero, List.set_cons_succ]
  refine mix_done ?_
  go_wp2
  rw [rounds_succ]
  go_wp2
  refine wp_region_mixS (fun w' => w'.cell? ⟨w.heap.size + 1 + 1 + 1, 4, none⟩ = some (.int .u64 p13) ∧ w'.cell? ⟨w.heap.size, 2, none⟩ = some (.int .u64 x2) ∧ w'.cell? ⟨w.heap.size + 1, 2, none⟩ = some (.int .u64 y2))
    tF9 tT9 [0, 1, 2, 3, 4, 5, 6, 7, 8, 9, 10, 11, 12, 13, 14, 15, 16, 17, 18, 19, 20, 21] rfl (by kernel_rfl) (fun _ _ d _ _ h => by cases d <;> exact h) (by refine ⟨?_, ?_, ?_⟩ <;> go_simp) (fun HS => ?_)
  iterate 15
    first
      | (apply mix_pure rfl rfl rfl; focus (intro wq; go_simp; first | done | with_reducible rfl))
      | (apply mix_look rfl rfl rfl HS; focus (intro wq hq; go_simp; first | done | with_reducible rfl))
    simp only [Act.put, List.setIfInBounds_toArray, List.set_cons_zero, List.set_cons_succ]
  refine mix_act rfl rfl rfl ?_
  intro K hK
  go_simp
  refine (R22.out _).mono ?_
  rintro e w' ⟨rfl, rfl⟩
  refine hK _ _ (fun _ h => h) ?_
  clear hK K HS
  iterate 4
    apply mix_pure rfl rfl rfl
    focus (intro wq; go_simp; first | done | with_reducible rfl)
    simp only [Act.put, List.setIfInBounds_toArray, List.set_cons_zero, List.set_cons_succ]
  refine mix_act rfl rfl rfl ?_
  intro K hK
  go_simp
  refine hK _ _ (fun h => by cases h) ?_
  clear hK K
  apply mix_pure rfl rfl rfl
  focus (intro wq; go_simp; first | done | with_reducible rfl)
  simp only [Act.put, List.setIfInBounds_toArray, List.set_cons_zero, List.set_cons_succ]
  refine mix_done ?_
  go_wp2
  rw [rounds_succ]
  go_wp2
  refine wp_region_mixS (fun w' => w'.cell? ⟨w.heap.size + 1 + 1 + 1, 5, none⟩ = some (.int .u64 c13) ∧ w'.cell? ⟨w.heap.size, 2, none⟩ = some (.int .u64 x2) ∧ w'.cell? ⟨w.heap.size + 1, 3, none⟩ = some (.int .u64 y3))
    tF9 tT9 [0, 1, 2, 3, 4, 5, 6, 7, 8, 9, 10, 11, 12, 13, 14, 15, 16, 17, 18, 19, 20, 21] rfl (by kernel_rfl) (fun _ _ d _ _ h => by cases d <;> exact h) (by refine ⟨?_, ?_, ?_⟩ <;> go_simp) (fun HS => ?_)
  iterate 15
    first
      | (apply mix_pure rfl rfl rfl; focus (intro wq; go_simp; first | done | with_reducible rfl))
      | (apply mix_look rfl rfl rfl HS; focus (intro wq hq; go_simp; first | done | with_reducible rfl))
    simp only [Act.put, List.setIfInBounds_toArray, List.set_cons_zero, List.set_cons_succ]
  refine mix_act rfl rfl rfl ?_
  intro K hK
  go_simp
  refine (R23.out _).mono ?_
  rintro e w' ⟨rfl, rfl⟩
  refine hK _ _ (fun _ h => h) ?_
  clear hK K HS
  iterate 4
    apply mix_pure rfl rfl rfl
    focus (intro wq; go_simp; first | done | with_reducible rfl)
    simp only [Act.put, List.setIfInBounds_toArray, List.set_cons_zero, List.set_cons_succ]
  refine mix_act rfl rfl rfl ?_
  intro K hK
  go_simp
  refine hK _ _ (fun h => by cases h) ?_
  clear hK K
  apply mix_pure rfl rfl rfl
  focus (intro wq; go_simp; first | done | with_reducible rfl)
  simp only [Act.put, List.setIfInBounds_toArray, List.set_cons_zero, List.set_cons_succ]
  refine mix_done ?_
  go_wp2
  rw [rounds_succ]
  go_wp2
  rw [rounds_succ]
  go_wp2
  refine wp_loop_rounds 5 ?_
  rw [rounds_succ]
  go_wp2
  refine wp_region_mixS (fun w' => w'.cell? ⟨w.heap.size + 1 + 1 + 1, 3, none⟩ = some (.int .u64 p21) ∧ w'.cell? ⟨w.heap.size, 3, none⟩ = some (.int .u64 x3) ∧ w'.cell? ⟨w.heap.size + 1, 0, none⟩ = some (.int .u64 y0))
    tF9 tT9 [0, 1, 2, 3, 4, 5, 6, 7, 8, 9, 10, 11, 12, 13, 14, 15, 16, 17, 18, 19, 20, 21] rfl (by kernel_rfl) (fun _ _ d _ _ h => by cases d <;> exact h) (by refine ⟨?_, ?_, ?_⟩ <;> go_simp) (fun HS => ?_)
  iterate 15
    first
      | (apply mix_pure rfl rfl rfl; focus (intro wq; go_simp; first | done | with_reducible rfl))
      | (apply mix_look rfl rfl rfl HS; focus (intro wq hq; go_simp; first | done | with_reducible rfl))
    simp only [Act.put, List.setIfInBounds_toArray, List.set_cons_zero, List.set_cons_succ]
  refine mix_act rfl rfl rfl ?_
  intro K hK
  go_simp
  refine (R30.out _).mono ?_
  rintro e w' ⟨rfl, rfl⟩
  refine hK _ _ (fun _ h => h) ?_
  clear hK K HS
  iterate 4
    apply mix_pure rfl rfl rfl
    focus (intro wq; go_simp; first | done | with_reducible rfl)
    simp only [Act.put, List.setIfInBounds_toArray, List.set_cons_zero, List.set_cons_succ]
  refine mix_act rfl rfl rfl ?_
  intro K hK
  go_simp
  refine hK _ _ (fun h => by cases h) ?_
  clear hK K
  apply mix_pure rfl rfl rfl
  focus (intro wq; go_simp; first | done | with_reducible rfl)
  simp only [Act.put, List.setIfInBounds_toArray, List.set_cons_zero, List.set_cons_succ]
  refine mix_done ?_
  go_wp2
  rw [rounds_succ]
  go_wp2
  refine wp_region_mixS (fun w' => w'.cell? ⟨w.heap.size + 1 + 1 + 1, 4, none⟩ = some (.int .u64 p22) ∧ w'.cell? ⟨w.heap.size, 3, none⟩ = some (.int .u64 x3) ∧ w'.cell? ⟨w.heap.size + 1, 1, none⟩ = some (.int .u64 y1))
    tF9 tT9 [0, 1, 2, 3, 4, 5, 6, 7, 8, 9, 10, 11, 12, 13, 14, 15, 16, 17, 18, 19, 20, 21] rfl (by kernel_rfl) (fun _ _ d _ _ h => by cases d <;> exact h) (by refine ⟨?_, ?_, ?_⟩ <;> go_simp) (fun HS => ?_)
  iterate 15
    first
      | (apply mix_pure rfl rfl rfl; focus (intro wq; go_simp; first | done | with_reducible rfl))
      | (apply mix_look rfl rfl rfl HS; focus (intro wq hq; go_simp; first | done | with_reducible rfl))
    simp only [Act.put, List.setIfInBounds_toArray, List.set_cons_zero, List.set_cons_succ]
  refine mix_act rfl rfl rfl ?_
  intro K hK
  go_simp
  refine (R31.out _).mono ?_
  rintro e w' ⟨rfl, rfl⟩
  refine hK _ _ (fun _ h => h) ?_
  clear hK K HS
  iterate 4
    apply mix_pure rfl rfl rfl
    focus (intro wq; go_simp; first | done | with_reducible rfl)
    simp only [Act.put, List.setIfInBounds_toArray, List.set_cons_zero, List.set_cons_succ]
  refine mix_act rfl rfl rfl ?_
  intro K hK
  go_simp
  refine hK _ _ (fun h => by cases h) ?_
  clear hK K
  apply mix_pure rfl rfl rfl
  focus (intro wq; go_simp; first | done | with_reducible rfl)
  simp only [Act.put, List.setIfInBounds_toArray, List.set_cons_zero, List.set_cons_succ]
  refine mix_done ?_
  go_wp2
  rw [rounds_succ]
  go_wp2
  refine wp_region_mixS (fun w' => w'.cell? ⟨w.heap.size + 1 + 1 + 1, 5, none⟩ = some (.int .u64 p23) ∧ w'.cell? ⟨w.heap.size, 3, none⟩ = some (.int .u64 x3) ∧ w'.cell? ⟨w.heap.size + 1, 2, none⟩ = some (.int .u64 y2))
    tF9 tT9 [0, 1, 2, 3, 4, 5, 6, 7, 8, 9, 10, 11, 12, 13, 14, 15, 16, 17, 18, 19, 20, 21] rfl (by kernel_rfl) (fun _ _ d _ _ h => by cases d <;> exact h) (by refine ⟨?_, ?_, ?_⟩ <;> go_simp) (fun HS => ?_)
  iterate 15
    first
      | (apply mix_pure rfl rfl rfl; focus (intro wq; go_simp; first | done | with_reducible rfl))
      | (apply mix_look rfl rfl rfl HS; focus (intro wq hq; go_simp; first | done | with_reducible rfl))
    simp only [Act.put, List.setIfInBounds_toArray, List.set_cons_zero, List.set_cons_succ]
  refine mix_act rfl rfl rfl ?_
  intro K hK
  go_simp
  refine (R32.out _).mono ?_
  rintro e w' ⟨rfl, rfl⟩
  refine hK _ _ (fun _ h => h) ?_
  clear hK K HS
  iterate 4
    apply mix_pure rfl rfl rfl
    focus (intro wq; go_simp; first | done | with_reducible rfl)
    simp only [Act.put, List.setIfInBounds_toArray, List.set_cons_zero, List.set_cons_succ]
  refine mix_act rfl rfl rfl ?_
  intro K hK
  go_simp
  refine hK _ _ (fun h => by cases h) ?_
  clear hK K
  apply mix_pure rfl rfl rfl
  focus (intro wq; go_simp; first | done | with_reducible rfl)
  simp only [Act.put, List.setIfInBounds_toArray, List.set_cons_zero, List.set_cons_succ]
  refine mix_done ?_
  go_wp2
  rw [rounds_succ]
  go_wp2
  refine wp_region_mixS (fun w' => w'.cell? ⟨w.heap.size + 1 + 1 + 1, 6, none⟩ = some (.int .u64 c23) ∧ w'.cell? ⟨w.heap.size, 3, none⟩ = some (.int .u64 x3) ∧ w'.cell? ⟨w.heap.size + 1, 3, none⟩ = some (.int .u64 y3))
    tF9 tT9 [0, 1, 2, 3, 4, 5, 6, 7, 8, 9, 10, 11, 12, 13, 14, 15, 16, 17, 18, 19, 20, 21] rfl (by kernel_rfl) (fun _ _ d _ _ h => by cases d <;> exact h) (by refine ⟨?_, ?_, ?_⟩ <;> go_simp) (fun HS => ?_)
  iterate 15
    first
      | (apply mix_pure rfl rfl rfl; focus (intro wq; go_simp; first | done | with_reducible rfl))
      | (apply mix_look rfl rfl rfl HS; focus (intro wq hq; go_simp; first | done | with_reducible rfl))
    simp only [Act.put, List.setIfInBounds_toArray, List.set_cons_zero, List.set_cons_succ]
  refine mix_act rfl rfl rfl ?_
  intro K hK
  go_simp
  refine (R33.out _).mono ?_
  rintro e w' ⟨rfl, rfl⟩
  refine hK _ _ (fun _ h => h) ?_
  clear hK K HS
  iterate 4
    apply mix_pure rfl rfl rfl
    focus (intro wq; go_simp; first | done | with_reducible rfl)
    simp only [Act.put, List.setIfInBounds_toArray, List.set_cons_zero, List.set_cons_succ]
  refine mix_act rfl rfl rfl ?_
  intro K hK
  go_simp
  refine hK _ _ (fun h => by cases h) ?_
  clear hK K
  apply mix_pure rfl rfl rfl
  focus (intro wq; go_simp; first | done | with_reducible rfl)
  simp only [Act.put, List.setIfInBounds_toArray, List.set_cons_zero, List.set_cons_succ]
  refine mix_done ?_
  go_wp2
  rw [rounds_succ]
  go_wp2
  rw [rounds_succ]
  go_wp2
  refine wp_loop_rounds 5 ?_
  rw [rounds_succ]
  go_wp2
  refine wp_region_mixS (fun w' => w'.cell? ⟨w.heap.size + 1 + 1 + 1, 0, none⟩ = some (.int .u64 p00) ∧ w'.cell? ⟨w.heap.size + 1 + 1 + 1, 4, none⟩ = some (.int .u64 p31))
    tF18 tT18 [0, 1, 2, 3, 4, 5, 6, 7, 8, 9, 10, 11, 12, 13, 14, 15] rfl (by kernel_rfl) (fun _ _ d _ _ h => by cases d <;> exact h) (by refine ⟨?_, ?_⟩ <;> go_simp) (fun HS => ?_)
  iterate 9
    first
      | (apply mix_pure rfl rfl rfl; focus (intro wq; go_simp; first | done | with_reducible rfl))
      | (apply mix_look rfl rfl rfl HS; focus (intro wq hq; go_simp; first | done | with_reducible rfl))
    simp only [Act.put, List.setIfInBounds_toArray, List.set_cons_zero, List.set_cons_succ]
  refine mix_act rfl rfl rfl ?_
  intro K hK
  go_simp
  refine (T0.out _).mono ?_
  rintro e w' ⟨rfl, rfl⟩
  refine hK _ _ (fun _ h => h) ?_
  clear hK K HS
  iterate 4
    apply mix_pure rfl rfl rfl
    focus (intro wq; go_simp; first | done | with_reducible rfl)
    simp only [Act.put, List.setIfInBounds_toArray, List.set_cons_zero, List.set_cons_succ]
  refine mix_act rfl rfl rfl ?_
  intro K hK
  go_simp
  refine hK _ _ (fun h => by cases h) ?_
  clear hK K
  apply mix_pure rfl rfl rfl
  focus (intro wq; go_simp; first | done | with_reducible rfl)
  simp only [Act.put, List.setIfInBounds_toArray, List.set_cons_zero, List.set_cons_succ]
  refine mix_done ?_
  go_wp2
  rw [rounds_succ]
  go_wp2
  refine wp_region_mixS (fun w' => w'.cell? ⟨w.heap.size + 1 + 1 + 1, 1, none⟩ = some (.int .u64 p10) ∧ w'.cell? ⟨w.heap.size + 1 + 1 + 1, 5, none⟩ = some (.int .u64 p32))
    tF18 tT18 [0, 1, 2, 3, 4, 5, 6, 7, 8, 9, 10, 11, 12, 13, 14, 15] rfl (by kernel_rfl) (fun _ _ d _ _ h => by cases d <;> exact h) (by refine ⟨?_, ?_⟩ <;> go_simp) (fun HS => ?_)
  iterate 9
    first
      | (apply mix_pure rfl rfl rfl; focus (intro wq; go_simp; first | done | with_reducible rfl))
      | (apply mix_look rfl rfl rfl HS; focus (intro wq hq; go_simp; first | done | with_reducible rfl))
    simp only [Act.put, List.setIfInBounds_toArray, List.set_cons_zero, List.set_cons_succ]
  refine mix_act rfl rfl rfl ?_
  intro K hK
  go_simp
  refine (T1.out _).mono ?_
  rintro e w' ⟨rfl, rfl⟩
  refine hK _ _ (fun _ h => h) ?_
  clear hK K HS
  iterate 4
    apply mix_pure rfl rfl rfl
    focus (intro wq; go_simp; first | done | with_reducible rfl)
    simp only [Act.put, List.setIfInBounds_toArray, List.set_cons_zero, List.set_cons_succ]
  refine mix_act rfl rfl rfl ?_
  intro K hK
  go_simp
  refine hK _ _ (fun h => by cases h) ?_
  clear hK K
  apply mix_pure rfl rfl rfl
  focus (intro wq; go_simp; first | done | with_reducible rfl)
  simp only [Act.put, List.setIfInBounds_toArray, List.set_cons_zero, List.set_cons_succ]
  refine mix_done ?_
  go_wp2
  rw [rounds_succ]
  go_wp2
  refine wp_region_mixS (fun w' => w'.cell? ⟨w.heap.size + 1 + 1 + 1, 2, none⟩ = some (.int .u64 p20) ∧ w'.cell? ⟨w.heap.size + 1 + 1 + 1, 6, none⟩ = some (.int .u64 p33))
    tF18 tT18 [0, 1, 2, 3, 4, 5, 6, 7, 8, 9, 10, 11, 12, 13, 14, 15] rfl (by kernel_rfl) (fun _ _ d _ _ h => by cases d <;> exact h) (by refine ⟨?_, ?_⟩ <;> go_simp) (fun HS => ?_)
  iterate 9
    first
      | (apply mix_pure rfl rfl rfl; focus (intro wq; go_simp; first | done | with_reducible rfl))
      | (apply mix_look rfl rfl rfl HS; focus (intro wq hq; go_simp; first | done | with_reducible rfl))
    simp only [Act.put, List.setIfInBounds_toArray, List.set_cons_zero, List.set_cons_succ]
  refine mix_act rfl rfl rfl ?_
  intro K hK
  go_simp
  refine (T2.out _).mono ?_
  rintro e w' ⟨rfl, rfl⟩
  refine hK _ _ (fun _ h => h) ?_
  clear hK K HS
  iterate 4
    apply mix_pure rfl rfl rfl
    focus (intro wq; go_simp; first | done | with_reducible rfl)
    simp only [Act.put, List.setIfInBounds_toArray, List.set_cons_zero, List.set_cons_succ]
  refine mix_act rfl rfl rfl ?_
  intro K hK
  go_simp
  refine hK _ _ (fun h => by cases h) ?_
  clear hK K
  apply mix_pure rfl rfl rfl
  focus (intro wq; go_simp; first | done | with_reducible rfl)
  simp only [Act.put, List.setIfInBounds_toArray, List.set_cons_zero, List.set_cons_succ]
  refine mix_done ?_
  go_wp2
  rw [rounds_succ]
  go_wp2
  refine wp_region_mixS (fun w' => w'.cell? ⟨w.heap.size + 1 + 1 + 1, 3, none⟩ = some (.int .u64 p30) ∧ w'.cell? ⟨w.heap.size + 1 + 1 + 1, 7, none⟩ = some (.int .u64 c33))
    tF18 tT18 [0, 1, 2, 3, 4, 5, 6, 7, 8, 9, 10, 11, 12, 13, 14, 15] rfl (by kernel_rfl) (fun _ _ d _ _ h => by cases d <;> exact h) (by refine ⟨?_, ?_⟩ <;> go_simp) (fun HS => ?_)
  iterate 9
    first
      | (apply mix_pure rfl rfl rfl; focus (intro wq; go_simp; first | done | with_reducible rfl))
      | (apply mix_look rfl rfl rfl HS; focus (intro wq hq; go_simp; first | done | with_reducible rfl))
    simp only [Act.put, List.setIfInBounds_toArray, List.set_cons_zero, List.set_cons_succ]
  refine mix_act rfl rfl rfl ?_
  intro K hK
  go_simp
  refine (T3.out _).mono ?_
  rintro e w' ⟨rfl, rfl⟩
  refine hK _ _ (fun _ h => h) ?_
  clear hK K HS
  iterate 4
    apply mix_pure rfl rfl rfl
    focus (intro wq; go_simp; first | done | with_reducible rfl)
    simp only [Act.put, List.setIfInBounds_toArray, List.set_cons_zero, List.set_cons_succ]
  refine mix_act rfl rfl rfl ?_
  intro K hK
  go_simp
  refine hK _ _ (fun h => by cases h) ?_
  clear hK K
  apply mix_pure rfl rfl rfl
  focus (intro wq; go_simp; first | done | with_reducible rfl)
  simp only [Act.put, List.setIfInBounds_toArray, List.set_cons_zero, List.set_cons_succ]
  refine mix_done ?_
  go_wp2
  rw [rounds_succ]
  go_wp2_with fail
  refine (fold_any _ _ _ _ _ _ t0.lo t1.lo t2.lo t3.lo hc0 hc1).mono ?_
  rintro e w1 ⟨q0, q1, q2, q3, hq0, hq1, hq2, hq3, ⟨k, ek⟩, rfl, hb1⟩
  have g4 := bheap hb1 (heap_a35 w _ _ _ _ _) (by simp <;> omega)
  have hB1 : Hid (Below w.heap.size w w1) := by
    refine Below.trans ?_ (hb1.mono (by simp <;> omega))
    repeat first | exact Below.refl _ _ | refine Below.alloc ?_ (by simp <;> omega) _ | refine Below.drew ?_ | refine Below.drewN' ?_ _
  clear hb1
  have EK := Hid.mk (times_end E1.out E2.out ek)
  clear ek
  go_wp2_with (refine st_limbs rfl _ _ rfl _ _ _ _ _ rfl rfl _ _ _ _ g4 ?_; intro w2 g5 o5)
  exact bodyPost_ret (v := .agg #[.int .u64 q0, .int .u64 q1, .int .u64 q2, .int .u64 q3]) (results_cell_row rfl _ _ _ _ _ _ _ rfl g5 Tryd.underlying38 rfl (by kernel_rfl)) rfl
    ⟨q0, q1, q2, q3, hq0, hq1, hq2, hq3, ⟨_, EK.out⟩, rfl, Below.trans hB1.out (Only.below (b := w.heap.size + 1 + 1) (B := w.heap.size) o5 (by omega))⟩
end Go.Proofs.YtgklkkjhoecdoaaDoor
