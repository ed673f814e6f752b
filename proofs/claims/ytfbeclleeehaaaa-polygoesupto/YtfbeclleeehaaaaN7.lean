/-
  Own text. What putWord and mark of package poly answer: contracts over the translation.
-/
import Derived.Test.YtfbeclleeehaaaaN5
import Derived.Test.YtfbeclleeehaaaaN6
namespace Go.Proofs.Ytfbeclleeehaaaa
open Go.RowKit Go.Proofs
def U64 (x : Int) : Prop := 0 ≤ x ∧ x < 18446744073709551616
def Bit (c : Int) : Prop := c = 0 ∨ c = 1
/-- lo and hi are the low word and the carry of x + y + c. -/
def Sum3 (x y c lo hi : Int) : Prop := U64 lo ∧ Bit hi ∧ lo + 18446744073709551616 * hi = x + y + c
theorem add64_run (x y c : Int) (hx : U64 x) (hy : U64 y) (hc : Bit c) (w : World) :
    ∃ lo hi, Sum3 x y c lo hi ∧ (callFunc 26 #[.int .u64 x, .int .u64 y, .int .u64 c]).run Try.prog w =
      .ok (.value (.tuple #[.int .u64 lo, .int .u64 hi])) w := by
  unfold U64 at hx hy
  unfold Bit at hc
  refine ⟨(x + y + c) % 18446744073709551616, (x + y + c) / 18446744073709551616, ⟨⟨?_, ?_⟩, ?_, ?_⟩, ?_⟩
  · omega
  · omega
  · unfold Bit; omega
  · omega
  rw [run_callFunc_extern Try.func26 (by kernel_rfl) (by kernel_rfl) (by kernel_rfl) (e := add64Entry) (by kernel_rfl), run_add64 x y c (by omega) (by omega) (by omega) (by omega)]
  rfl
theorem add64_all {x y c : Int} (hx : U64 x) (hy : U64 y) (hc : Bit c) :
    ∃ lo hi, Sum3 x y c lo hi ∧ ∀ w, (callFunc 26 #[.int .u64 x, .int .u64 y, .int .u64 c]).run Try.prog w =
      .ok (.value (.tuple #[.int .u64 lo, .int .u64 hi])) w := by
  obtain ⟨lo, hi, hs, _⟩ := add64_run x y c hx hy hc default
  refine ⟨lo, hi, hs, fun w => ?_⟩
  obtain ⟨lo', hi', hs', e⟩ := add64_run x y c hx hy hc w
  have e1 : lo' = lo ∧ hi' = hi := by unfold Sum3 U64 Bit at hs hs'; omega
  rw [e, e1.1, e1.2]
set_option maxHeartbeats 1000000 in
theorem putWord_walk (b off cap : Nat) (x : Int) (v0 v1 v2 v3 v4 v5 v6 v7 : Value) (w : World)
    (c0 : w.cell? ⟨b, off, none⟩ = some v0) (c1 : w.cell? ⟨b, off + 1, none⟩ = some v1)
    (c2 : w.cell? ⟨b, off + 2, none⟩ = some v2) (c3 : w.cell? ⟨b, off + 3, none⟩ = some v3)
    (c4 : w.cell? ⟨b, off + 4, none⟩ = some v4) (c5 : w.cell? ⟨b, off + 5, none⟩ = some v5)
    (c6 : w.cell? ⟨b, off + 6, none⟩ = some v6) (c7 : w.cell? ⟨b, off + 7, none⟩ = some v7)
    (f0 : w.frozen? ⟨b, off, none⟩ = false) (f1 : w.frozen? ⟨b, off + 1, none⟩ = false)
    (f2 : w.frozen? ⟨b, off + 2, none⟩ = false) (f3 : w.frozen? ⟨b, off + 3, none⟩ = false)
    (f4 : w.frozen? ⟨b, off + 4, none⟩ = false) (f5 : w.frozen? ⟨b, off + 5, none⟩ = false)
    (f6 : w.frozen? ⟨b, off + 6, none⟩ = false) (f7 : w.frozen? ⟨b, off + 7, none⟩ = false) :
    Calls Try.prog 27 #[.slice (some ⟨b, off, none⟩) 8 cap, .int .u64 x] w fun e w' => e = .returned (.tuple #[]) ∧
      w' = (((((((w.setCell ⟨b, off, none⟩ (.int .u8 (x % 256))).setCell ⟨b, off + 1, none⟩ (.int .u8 (x / 256 % 256))).setCell ⟨b, off + 2, none⟩ (.int .u8 (x / 65536 % 256))).setCell
        ⟨b, off + 3, none⟩ (.int .u8 (x / 16777216 % 256))).setCell ⟨b, off + 4, none⟩ (.int .u8 (x / 4294967296 % 256))).setCell ⟨b, off + 5, none⟩ (.int .u8 (x / 1099511627776 % 256))).setCell
        ⟨b, off + 6, none⟩ (.int .u8 (x / 281474976710656 % 256))).setCell ⟨b, off + 7, none⟩ (.int .u8 (x / 72057594037927936 % 256)) := by
  go_enter Try.func27, Try.ntmps27
  go_wp2
  go_end0
  exact ⟨rfl, rfl⟩
theorem pput_run (b off cap n : Nat) (x : Int) (s : Nat → Int) (t : TypeId) (w : World) (hg : ArrAt w b .u8 t n s) (ho : off + 8 ≤ n) :
    Calls Try.prog 27 #[.slice (some ⟨b, off, none⟩) 8 cap, .int .u64 x] w fun e w' => e = .returned (.tuple #[]) ∧ ArrAt w' b .u8 t n (over s off 8 (digN x)) ∧ Only b w w' := by
  refine (putWord_walk b off cap x _ _ _ _ _ _ _ _ w (hg.cell _ (by omega)) (hg.cell _ (by omega)) (hg.cell _ (by omega)) (hg.cell _ (by omega)) (hg.cell _ (by omega)) (hg.cell _ (by omega)) (hg.cell _ (by omega)) (hg.cell _ (by omega)) (hg.free _) (hg.free _) (hg.free _) (hg.free _) (hg.free _) (hg.free _) (hg.free _) (hg.free _)).mono ?_
  rintro e w' ⟨rfl, rfl⟩
  refine ⟨rfl, ?_, ((((((((Only.refl b w).setCell _ _).setCell _ _).setCell _ _).setCell _ _).setCell _ _).setCell _ _).setCell _ _).setCell _ _⟩
  refine ((((((((hg.set off _ (by omega)).set (off + 1) _ (by omega)).set (off + 2) _ (by omega)).set (off + 3) _ (by omega)).set (off + 4) _ (by omega)).set (off + 5) _ (by omega)).set (off + 6) _ (by omega)).set (off + 7) _ (by omega)).congr ?_
  intro i _
  unfold over upd digN
  by_cases h : off ≤ i ∧ i < off + 8
  · obtain ⟨k, rfl⟩ : ∃ k, i = off + k := ⟨i - off, by omega⟩
    have hk : k < 8 := by omega
    rw [if_pos h, Nat.add_sub_cancel_left]
    match k, hk with
    | 0, _ => simp
    | 1, _ => simp
    | 2, _ => simp
    | 3, _ => simp
    | 4, _ => simp
    | 5, _ => simp
    | 6, _ => simp
    | 7, _ => simp
  · rw [if_neg h]
    rw [if_neg (by omega), if_neg (by omega), if_neg (by omega), if_neg (by omega), if_neg (by omega), if_neg (by omega), if_neg (by omega), if_neg (by omega)]
theorem mark_words (lo hi : Int) (hl : U64 lo) (i : Nat) (h : i < 16) : over (over (fun _ => 0) 0 8 (digN lo)) 8 8 (digN hi) i = digN (lo + 18446744073709551616 * hi) i := by
  unfold U64 at hl
  have e : (18446744073709551616 : Int) = 256 ^ 8 := by decide
  unfold over
  by_cases h8 : 8 ≤ i
  · rw [if_pos (by omega)]
    obtain ⟨k, rfl⟩ : ∃ k, i = 8 + k := ⟨i - 8, by omega⟩
    rw [Nat.add_sub_cancel_left]
    unfold digN
    rw [Int.pow_add, ← e, ← Int.ediv_ediv_of_nonneg (by omega), Int.add_mul_ediv_left _ _ (by omega), Int.ediv_eq_zero_of_lt hl.1 hl.2, Int.zero_add]
  · rw [if_neg (by omega), if_pos (by omega)]
    rw [Nat.sub_zero]
    have hd := dval_digN8 lo hi i (by omega)
    rw [hd]
set_option maxHeartbeats 8000000 in
theorem pmark_run (x s : Nat → Int) (w : World) (hx : Sm x) (hs0 : U64 (s 0)) (hs1 : U64 (s 1)) :
    Calls Try.prog 21 #[.agg (WA .u64 5 x), .agg (WA .u64 2 s)] w fun e w' => e = .returned (.agg (WA .u8 16 (digN ((qv x 5 % P130 + (s 0 + 18446744073709551616 * s 1)) % 340282366920938463463374607431768211456)))) ∧ Below w.heap.size w w' := by
  have g0 : ArrAt (((w.alloc (.cells (WA .u64 5 x) 40)).alloc (.cells (WA .u64 2 s) 41)).alloc (.cells (WA .u8 16 fun _ => 0) 23)) w.heap.size .u64 40 5 x := heap_a31 w _ _ _
  have g1 : ArrAt (((w.alloc (.cells (WA .u64 5 x) 40)).alloc (.cells (WA .u64 2 s) 41)).alloc (.cells (WA .u8 16 fun _ => 0) 23)) (w.heap.size + 1) .u64 41 2 s := heap_a32 w _ _ _
  have g2 : ArrAt (((w.alloc (.cells (WA .u64 5 x) 40)).alloc (.cells (WA .u64 2 s) 41)).alloc (.cells (WA .u8 16 fun _ => 0) 23)) (w.heap.size + 1 + 1) .u8 23 16 (fun _ => 0) := heap_a3 w _ _ _
  have hB : Below w.heap.size w (((w.alloc (.cells (WA .u64 5 x) 40)).alloc (.cells (WA .u64 2 s) 41)).alloc (.cells (WA .u8 16 fun _ => 0) 23)) := (((Below.refl _ w).alloc (by simp) _).alloc (by simp) _).alloc (by simp; omega) _
  go_enter Try.func21, Try.ntmps21
  go_wp2_with (refine ld_arr isL g0 (by rfl) ?_)
  refine (pleast_run x _ hx).mono ?_
  rintro e v1 ⟨z, hz, hq, rfl, hb⟩
  replace g0 := g0.kept hb
  replace g1 := g1.kept hb
  replace g2 := g2.kept hb
  replace hB := hB.trans (hb.mono hB.size)
  clear hb
  go_wp2_with (refine st_arr isL g0 (by rfl) (by rfl) ?_; intro v2 g3 o2; refine Hid.out ?_)
  replace g0 := g3
  replace g1 := g1.only o2 (by omega)
  replace g2 := g2.only o2 (by omega)
  replace hB := hB.trans (o2.below (Nat.le_refl _))
  clear o2 g3
  have c0 := g0.cell 0 (by decide)
  have c1 := g0.cell 1 (by decide)
  have c2 := g0.cell 2 (by decide)
  have c3 := g0.cell 3 (by decide)
  have c4 := g0.cell 4 (by decide)
  have d0 := g1.cell 0 (by decide)
  have d1 := g1.cell 1 (by decide)
  have z0 := hz 0 (by decide)
  have z1 := hz 1 (by decide)
  have z2 := hz 2 (by decide)
  have z3 := hz 3 (by decide)
  have z4 := hz 4 (by decide)
  rw [qv5] at hq
  have e1 := w64 (z := z 1 * 67108864) (by omega) (by omega)
  have e2 : IntKind.u64.wrap (z 2 * 4503599627370496) = (z 2 % 4096) * 4503599627370496 := by rw [IntKind.wrap_u64]; omega
  have e3 : bits BinOp.or IntKind.u64 (z 0) (z 1 * 67108864) = z 0 + z 1 * 67108864 := or_shift _ _ 26 (by omega) (by omega) (by omega) (by omega)
  have e4 : bits BinOp.or IntKind.u64 (z 0 + z 1 * 67108864) ((z 2 % 4096) * 4503599627370496) = z 0 + z 1 * 67108864 + (z 2 % 4096) * 4503599627370496 := or_shift _ _ 52 (by omega) (by omega) (by omega) (by omega)
  have e5 := w64 (z := z 3 * 16384) (by omega) (by omega)
  have e6 : IntKind.u64.wrap (z 4 * 1099511627776) = (z 4 % 16777216) * 1099511627776 := by rw [IntKind.wrap_u64]; omega
  have e7 : bits BinOp.or IntKind.u64 (z 2 / 4096) (z 3 * 16384) = z 2 / 4096 + z 3 * 16384 := or_shift _ _ 14 (by omega) (by omega) (by omega) (by omega)
  have e8 : bits BinOp.or IntKind.u64 (z 2 / 4096 + z 3 * 16384) ((z 4 % 16777216) * 1099511627776) = z 2 / 4096 + z 3 * 16384 + (z 4 % 16777216) * 1099511627776 := or_shift _ _ 40 (by omega) (by omega) (by omega) (by omega)
  obtain ⟨lo, ca, hlo, r1⟩ := add64_all (x := z 0 + z 1 * 67108864 + (z 2 % 4096) * 4503599627370496) (y := s 0) (c := 0) (by unfold U64; omega) hs0 (Or.inl rfl)
  obtain ⟨hi, cb, hhi, r2⟩ := add64_all (x := z 2 / 4096 + z 3 * 16384 + (z 4 % 16777216) * 1099511627776) (y := s 1) (c := ca) (by unfold U64; omega) hs1 hlo.2.1
  have HM : Hid ((qv x 5 % P130 + (s 0 + 18446744073709551616 * s 1)) % 340282366920938463463374607431768211456 = lo + 18446744073709551616 * hi) := Hid.mk (by
    obtain ⟨p1, p2, p3⟩ := hlo
    obtain ⟨q1, q2, q3⟩ := hhi
    unfold U64 at *
    unfold Bit at *
    rw [← hq]
    omega)
  have hlo' := Hid.mk hlo.1
  have gn : ∀ o, o = Obj.cells (WA .u8 16 fun _ => 0) 23 (0, 0) → ArrAt (v2.alloc o) v2.heap.size .u8 23 16 (fun _ => 0) := fun o ho => by rw [ho]; exact heap_alloc_new v2 _
  have hz2 := g2.lt
  clear hlo hhi z0 z1 z2 z3 z4 hs0 hs1 hq hz hx
  refine Hid.mk ?_
  go_wp2_with fail
  refine (pput_run v2.heap.size 0 _ 16 lo (fun _ => 0) 23 _ (gn _ rfl) (by decide)).mono ?_
  rintro e v3 ⟨rfl, g3, o3⟩
  replace g2 := (g2.alloc _).only o3 (by omega)
  have hBS := hB.size
  replace hB := (hB.alloc (by omega) _).trans (o3.below (by omega))
  clear o3 gn c0 c1 c2 c3 c4 d0 d1 g0 g1 r1 r2 e1 e2 e3 e4 e5 e6 e7 e8
  go_wp2_with fail
  refine (pput_run v2.heap.size 8 _ 16 hi _ 23 _ g3 (by decide)).mono ?_
  rintro e v4 ⟨rfl, g4, o4⟩
  replace g2 := g2.only o4 (by omega)
  replace hB := hB.trans (o4.below (by omega))
  replace g4 := g4.congr (s' := digN ((qv x 5 % P130 + (s 0 + 18446744073709551616 * s 1)) % 340282366920938463463374607431768211456)) (fun i hi => by rw [HM.out]; exact mark_words lo _ hlo'.out i hi)
  clear o4 g3
  go_wp2_with (first | refine ld_arr isArr16 g4 (by rfl) ?_ | (refine st_arr isArr16 g2 (by rfl) (by rfl) ?_; intro v5 g5 o5; refine Hid.out ?_))
  refine Hid.mk ?_
  go_wp2_with fail
  exact bodyPost_ret (res_arr Try.results21 isArr16 g5 (by rfl)) rfl ⟨rfl, hB.trans (o5.below (by omega))⟩
end Go.Proofs.Ytfbeclleeehaaaa
