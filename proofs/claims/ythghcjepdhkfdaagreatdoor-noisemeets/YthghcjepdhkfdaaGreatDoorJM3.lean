/-
  Own text. What putWord and mark of package poly answer: contracts over the translation.
-/
import Derived.Test.YthghcjepdhkfdaaGreatDoorJM2
import Derived.Lib.LazyBuf
import Derived.Lib.AppendStr
import Derived.Laws.BytesArg
import Derived.Test.YthghcjepdhkfdaaGreatDoorJM1
import Derived.Lib.BufferMore
import Derived.Lib.SlBytesConst
import Derived.ArgAppend
import Derived.Laws.CopyOwn
import Derived.Shelf.Strings.Builder1
import Derived.Shelf.Strings.Builder2
import Derived.Test.YthghcjepdhkfdaaGreatDoorProg
namespace Go.Proofs.YthghcjepdhkfdaaGreatDoor
open Go.RowKit Go.Proofs
set_option maxRecDepth 100000
def U64 (x : Int) : Prop := 0 ≤ x ∧ x < 18446744073709551616
def Bit (c : Int) : Prop := c = 0 ∨ c = 1
def Sum3 (x y c lo hi : Int) : Prop := U64 lo ∧ Bit hi ∧ lo + 18446744073709551616 * hi = x + y + c
theorem add64_run (x y c : Int) (hx : U64 x) (hy : U64 y) (hc : Bit c) (w : World) :
  ∃ lo hi, Sum3 x y c lo hi ∧ (callFunc 196 #[.int .u64 x, .int .u64 y, .int .u64 c]).run Tryz.prog w =
   .ok (.value (.tuple #[.int .u64 lo, .int .u64 hi])) w := by
 unfold U64 at hx hy
 unfold Bit at hc
 refine ⟨(x + y + c) % 18446744073709551616, (x + y + c) / 18446744073709551616, ⟨⟨?_, ?_⟩, ?_, ?_⟩, ?_⟩
 ·omega
 ·omega
 ·unfold Bit; omega
 ·omega
 rw [run_callFunc_extern Tryz.func196 (by kernel_rfl) (by kernel_rfl) (by kernel_rfl) (e := add64Entry) (by kernel_rfl), run_add64 x y c (by omega) (by omega) (by omega) (by omega)]
 rfl
theorem add64_all {x y c : Int} (hx : U64 x) (hy : U64 y) (hc : Bit c) :
  ∃ lo hi, Sum3 x y c lo hi ∧ ∀ w, (callFunc 196 #[.int .u64 x, .int .u64 y, .int .u64 c]).run Tryz.prog w =
   .ok (.value (.tuple #[.int .u64 lo, .int .u64 hi])) w := by
 obtain ⟨lo, hi, hs, _⟩ := add64_run x y c hx hy hc default
 refine ⟨lo, hi, hs, fun w => ?_⟩
 obtain ⟨lo', hi', hs', e⟩ := add64_run x y c hx hy hc w
 have e1 : lo' = lo ∧ hi' = hi := by unfold Sum3 U64 Bit at hs hs'; omega
 rw [e, e1.1, e1.2]
set_option maxHeartbeats 1000000 in
theorem pputWord_walk (b off cap : Nat) (x : Int) (v0 v1 v2 v3 v4 v5 v6 v7 : Value) (w : World)
  (c0 : w.cell? ⟨b, off, none⟩ = some v0) (c1 : w.cell? ⟨b, off + 1, none⟩ = some v1)
  (c2 : w.cell? ⟨b, off + 2, none⟩ = some v2) (c3 : w.cell? ⟨b, off + 3, none⟩ = some v3)
  (c4 : w.cell? ⟨b, off + 4, none⟩ = some v4) (c5 : w.cell? ⟨b, off + 5, none⟩ = some v5)
  (c6 : w.cell? ⟨b, off + 6, none⟩ = some v6) (c7 : w.cell? ⟨b, off + 7, none⟩ = some v7)
  (f0 : w.frozen? ⟨b, off, none⟩ = false) (f1 : w.frozen? ⟨b, off + 1, none⟩ = false)
  (f2 : w.frozen? ⟨b, off + 2, none⟩ = false) (f3 : w.frozen? ⟨b, off + 3, none⟩ = false)
  (f4 : w.frozen? ⟨b, off + 4, none⟩ = false) (f5 : w.frozen? ⟨b, off + 5, none⟩ = false)
  (f6 : w.frozen? ⟨b, off + 6, none⟩ = false) (f7 : w.frozen? ⟨b, off + 7, none⟩ = false) :
  Calls Tryz.prog 231 #[.slice (some ⟨b, off, none⟩) 8 cap, .int .u64 x] w fun e w' => e = .returned (.tuple #[]) ∧
   w' = (((((((w.setCell ⟨b, off, none⟩ (.int .u8 (x % 256))).setCell ⟨b, off + 1, none⟩ (.int .u8 (x / 256 % 256))).setCell ⟨b, off + 2, none⟩ (.int .u8 (x / 65536 % 256))).setCell
    ⟨b, off + 3, none⟩ (.int .u8 (x / 16777216 % 256))).setCell ⟨b, off + 4, none⟩ (.int .u8 (x / 4294967296 % 256))).setCell ⟨b, off + 5, none⟩ (.int .u8 (x / 1099511627776 % 256))).setCell
    ⟨b, off + 6, none⟩ (.int .u8 (x / 281474976710656 % 256))).setCell ⟨b, off + 7, none⟩ (.int .u8 (x / 72057594037927936 % 256)) := by
 go_enter Tryz.func231, Tryz.ntmps231
 go_wp2
 go_end0
 exact ⟨rfl, rfl⟩
theorem pput_run (b off cap n : Nat) (x : Int) (s : Nat → Int) (t : TypeId) (w : World) (hg : ArrAt w b .u8 t n s) (ho : off + 8 ≤ n) :
  Calls Tryz.prog 231 #[.slice (some ⟨b, off, none⟩) 8 cap, .int .u64 x] w fun e w' => e = .returned (.tuple #[]) ∧ ArrAt w' b .u8 t n (over s off 8 (digN x)) ∧ Only b w w' := by
 refine (pputWord_walk b off cap x _ _ _ _ _ _ _ _ w (hg.cell _ (by omega)) (hg.cell _ (by omega)) (hg.cell _ (by omega)) (hg.cell _ (by omega)) (hg.cell _ (by omega)) (hg.cell _ (by omega)) (hg.cell _ (by omega)) (hg.cell _ (by omega)) (hg.free _) (hg.free _) (hg.free _) (hg.free _) (hg.free _) (hg.free _) (hg.free _) (hg.free _)).mono ?_
 rintro e w' ⟨rfl, rfl⟩
 refine ⟨rfl, ?_, ((((((((Only.refl b w).setCell _ _).setCell _ _).setCell _ _).setCell _ _).setCell _ _).setCell _ _).setCell _ _).setCell _ _⟩
 refine ((((((((hg.set off _ (by omega)).set (off + 1) _ (by omega)).set (off + 2) _ (by omega)).set (off + 3) _ (by omega)).set (off + 4) _ (by omega)).set (off + 5) _ (by omega)).set (off + 6) _ (by omega)).set (off + 7) _ (by omega)).congr ?_
 intro i _
 unfold over upd digN
 by_cases h : off ≤ i ∧ i < off + 8
 ·obtain ⟨k, rfl⟩ : ∃ k, i = off + k := ⟨i - off, by omega⟩
  have hk : k < 8 := by omega
  rw [if_pos h, Nat.add_sub_cancel_left]
  match k, hk with
  | 0, _ => simp
  | 1, _ => simp
  | 2, _ => simp
  | 3, _ => simp
  | 4, _ => simp
  | 5, _ => simp
  | 6, _ => simp
  | 7, _ => simp
 ·rw [if_neg h]
  rw [if_neg (by omega), if_neg (by omega), if_neg (by omega), if_neg (by omega), if_neg (by omega), if_neg (by omega), if_neg (by omega), if_neg (by omega)]
theorem mark_words (lo hi : Int) (hl : U64 lo) (i : Nat) (h : i < 16) : over (over (fun _ => 0) 0 8 (digN lo)) 8 8 (digN hi) i = digN (lo + 18446744073709551616 * hi) i := by
 unfold U64 at hl
 have e : (18446744073709551616 : Int) = 256 ^ 8 := by decide
 unfold over
 by_cases h8 : 8 ≤ i
 ·rw [if_pos (by omega)]
  obtain ⟨k, rfl⟩ : ∃ k, i = 8 + k := ⟨i - 8, by omega⟩
  rw [Nat.add_sub_cancel_left]
  unfold digN
  rw [Int.pow_add, ← e, ← Int.ediv_ediv_of_nonneg (by omega), Int.add_mul_ediv_left _ _ (by omega), Int.ediv_eq_zero_of_lt hl.1 hl.2, Int.zero_add]
 ·rw [if_neg (by omega), if_pos (by omega)]
  rw [Nat.sub_zero]
  have hd := dval_digN8 lo hi i (by omega)
  rw [hd]
set_option maxHeartbeats 8000000 in
theorem pmark_run (x s : Nat → Int) (w : World) (hx : Sm x) (hs0 : U64 (s 0)) (hs1 : U64 (s 1)) :
  Calls Tryz.prog 224 #[.agg (WA .u64 5 x), .agg (WA .u64 2 s)] w fun e w' => e = .returned (.agg (WA .u8 16 (digN ((qv x 5 % P130 + (s 0 + 18446744073709551616 * s 1)) % 340282366920938463463374607431768211456)))) ∧ Below w.heap.size w w' := by
 have g0 : ArrAt (((w.alloc (.cells (WA .u64 5 x) 247)).alloc (.cells (WA .u64 2 s) 249)).alloc (.cells (WA .u8 16 fun _ => 0) 54)) w.heap.size .u64 247 5 x := heap_a31 w _ _ _
 have g1 : ArrAt (((w.alloc (.cells (WA .u64 5 x) 247)).alloc (.cells (WA .u64 2 s) 249)).alloc (.cells (WA .u8 16 fun _ => 0) 54)) (w.heap.size + 1) .u64 249 2 s := heap_a32 w _ _ _
 have g2 : ArrAt (((w.alloc (.cells (WA .u64 5 x) 247)).alloc (.cells (WA .u64 2 s) 249)).alloc (.cells (WA .u8 16 fun _ => 0) 54)) (w.heap.size + 1 + 1) .u8 54 16 (fun _ => 0) := heap_a3 w _ _ _
 have hB : Below w.heap.size w (((w.alloc (.cells (WA .u64 5 x) 247)).alloc (.cells (WA .u64 2 s) 249)).alloc (.cells (WA .u8 16 fun _ => 0) 54)) := (((Below.refl _ w).alloc (by simp) _).alloc (by simp) _).alloc (by simp; omega) _
 go_enter Tryz.func224, Tryz.ntmps224
 go_wp2_with (refine ld_arr isL g0 (by rfl) ?_)
 refine (pleast_run x _ hx).mono ?_
 rintro e v1 ⟨z, hz, hq, rfl, hb⟩
 replace g0 := g0.kept hb
 replace g1 := g1.kept hb
 replace g2 := g2.kept hb
 replace hB := hB.trans (hb.mono hB.size)
 clear hb
 go_wp2_with (refine st_arr isL g0 (by rfl) (by rfl) ?_; intro v2 g3 o2; refine Hid.out ?_)
 replace g0 := g3
 replace g1 := g1.only o2 (by omega)
 replace g2 := g2.only o2 (by omega)
 replace hB := hB.trans (o2.below (Nat.le_refl _))
 clear o2 g3
 have c0 := g0.cell 0 (by decide)
 have c1 := g0.cell 1 (by decide)
 have c2 := g0.cell 2 (by decide)
 have c3 := g0.cell 3 (by decide)
 have c4 := g0.cell 4 (by decide)
 have d0 := g1.cell 0 (by decide)
 have d1 := g1.cell 1 (by decide)
 have z0 := hz 0 (by decide)
 have z1 := hz 1 (by decide)
 have z2 := hz 2 (by decide)
 have z3 := hz 3 (by decide)
 have z4 := hz 4 (by decide)
 rw [qv5] at hq
 have e1 := w64 (z := z 1 * 67108864) (by omega) (by omega)
 have e2 : IntKind.u64.wrap (z 2 * 4503599627370496) = (z 2 % 4096) * 4503599627370496 := by rw [IntKind.wrap_u64]; omega
 have e3 : bits BinOp.or IntKind.u64 (z 0) (z 1 * 67108864) = z 0 + z 1 * 67108864 := or_shift _ _ 26 (by omega) (by omega) (by omega) (by omega)
 have e4 : bits BinOp.or IntKind.u64 (z 0 + z 1 * 67108864) ((z 2 % 4096) * 4503599627370496) = z 0 + z 1 * 67108864 + (z 2 % 4096) * 4503599627370496 := or_shift _ _ 52 (by omega) (by omega) (by omega) (by omega)
 have e5 := w64 (z := z 3 * 16384) (by omega) (by omega)
 have e6 : IntKind.u64.wrap (z 4 * 1099511627776) = (z 4 % 16777216) * 1099511627776 := by rw [IntKind.wrap_u64]; omega
 have e7 : bits BinOp.or IntKind.u64 (z 2 / 4096) (z 3 * 16384) = z 2 / 4096 + z 3 * 16384 := or_shift _ _ 14 (by omega) (by omega) (by omega) (by omega)
 have e8 : bits BinOp.or IntKind.u64 (z 2 / 4096 + z 3 * 16384) ((z 4 % 16777216) * 1099511627776) = z 2 / 4096 + z 3 * 16384 + (z 4 % 16777216) * 1099511627776 := or_shift _ _ 40 (by omega) (by omega) (by omega) (by omega)
 obtain ⟨lo, ca, hlo, r1⟩ := add64_all (x := z 0 + z 1 * 67108864 + (z 2 % 4096) * 4503599627370496) (y := s 0) (c := 0) (by unfold U64; omega) hs0 (Or.inl rfl)
 obtain ⟨hi, cb, hhi, r2⟩ := add64_all (x := z 2 / 4096 + z 3 * 16384 + (z 4 % 16777216) * 1099511627776) (y := s 1) (c := ca) (by unfold U64; omega) hs1 hlo.2.1
 have HM : Hid ((qv x 5 % P130 + (s 0 + 18446744073709551616 * s 1)) % 340282366920938463463374607431768211456 = lo + 18446744073709551616 * hi) := Hid.mk (by
  obtain ⟨p1, p2, p3⟩ := hlo
  obtain ⟨q1, q2, q3⟩ := hhi
  unfold U64 at *
  unfold Bit at *
  rw [← hq]
  omega)
 have hlo' := Hid.mk hlo.1
 have gn : ∀ o, o = Obj.cells (WA .u8 16 fun _ => 0) 54 (0, 0) → ArrAt (v2.alloc o) v2.heap.size .u8 54 16 (fun _ => 0) := fun o ho => by rw [ho]; exact heap_alloc_new v2 _
 have hz2 := g2.lt
 clear hlo hhi z0 z1 z2 z3 z4 hs0 hs1 hq hz hx
 refine Hid.mk ?_
 go_wp2_with fail
 refine (pput_run v2.heap.size 0 _ 16 lo (fun _ => 0) 54 _ (gn _ rfl) (by decide)).mono ?_
 rintro e v3 ⟨rfl, g3, o3⟩
 replace g2 := (g2.alloc _).only o3 (by omega)
 have hBS := hB.size
 replace hB := (hB.alloc (by omega) _).trans (o3.below (by omega))
 clear o3 gn c0 c1 c2 c3 c4 d0 d1 g0 g1 r1 r2 e1 e2 e3 e4 e5 e6 e7 e8
 go_wp2_with fail
 refine (pput_run v2.heap.size 8 _ 16 hi _ 54 _ g3 (by decide)).mono ?_
 rintro e v4 ⟨rfl, g4, o4⟩
 replace g2 := g2.only o4 (by omega)
 replace hB := hB.trans (o4.below (by omega))
 replace g4 := g4.congr (s' := digN ((qv x 5 % P130 + (s 0 + 18446744073709551616 * s 1)) % 340282366920938463463374607431768211456)) (fun i hi => by rw [HM.out]; exact mark_words lo _ hlo'.out i hi)
 clear o4 g3
 go_wp2_with (first | refine ld_arr isArr16 g4 (by rfl) ?_ | (refine st_arr isArr16 g2 (by rfl) (by rfl) ?_; intro v5 g5 o5; refine Hid.out ?_))
 refine Hid.mk ?_
 go_wp2_with fail
 exact bodyPost_ret (res_arr Tryz.results224 isArr16 g5 (by rfl)) rfl ⟨rfl, hB.trans (o5.below (by omega))⟩
end Go.Proofs.YthghcjepdhkfdaaGreatDoor

/-
  Own text. What numberOf of package poly answers: a contract over the translation.
-/
namespace Go.Proofs.YthghcjepdhkfdaaGreatDoor
open Go.RowKit Go.Proofs
set_option maxRecDepth 100000
def mkd (r : Nat → Int) (n : Nat) : Nat → Int := upd (over (fun _ => 0) 0 n r) n 1
def nblk (r : Nat → Int) (n : Nat) : Nat → Int := lofs (dval (mkd r n) 8) (dval (fun j => mkd r n (8 + j)) 8) (mkd r n 16)
theorem mkd_b {r : Nat → Int} {n : Nat} (hr : Byts n r) (i : Nat) : 0 ≤ mkd r n i ∧ mkd r n i < 256 := by
 unfold mkd upd over
 split
 ·omega
 split
 ·exact hr _ (by omega)
 ·show 0 ≤ (0 : Int) ∧ (0 : Int) < 256
  omega
theorem mkd_top {r : Nat → Int} {n : Nat} (hn : n ≤ 16) : 0 ≤ mkd r n 16 ∧ mkd r n 16 < 4 := by
 unfold mkd upd over
 split
 ·omega
 rw [if_neg (by omega)]
 show 0 ≤ (0 : Int) ∧ (0 : Int) < 4
 omega
theorem mkd_num (r : Nat → Int) {n : Nat} (hn : n ≤ 16) : dval (mkd r n) 17 = dval r n + 256 ^ n := by
 have h0 : over (fun _ => 0) 0 n r n = 0 := by unfold over; rw [if_neg (by omega)]
 unfold mkd
 rw [dval_upd (by omega), h0, dval_tail (n := n) (by omega) (fun i h1 _ => by unfold over; rw [if_neg (by omega)])]
 rw [dval_congr (t := r) (fun i hi => by unfold over; rw [if_pos (by omega), Nat.sub_zero])]
 omega
theorem nblk_num {r : Nat → Int} {n : Nat} (hn : n ≤ 16) : qv (nblk r n) 5 = dval r n + 256 ^ n := by
 have h := dval_shift (mkd r n) 8 9
 have h2 : dval (fun j => mkd r n (8 + j)) 9 = dval (fun j => mkd r n (8 + j)) 8 + 256 ^ 8 * mkd r n 16 := rfl
 rw [show (8 + 9 : Nat) = 17 from rfl, mkd_num r hn, h2] at h
 unfold nblk
 rw [lofs_num, h]
 simp only [Int.reducePow]
 omega
theorem nblk_dg {r : Nat → Int} {n : Nat} (hr : Byts n r) (hn : n ≤ 16) : Dg 67108864 5 (nblk r n) := lofs_dg (dval8_b fun i _ => mkd_b hr i) (dval8_b fun i _ => mkd_b hr (8 + i)) (mkd_top hn)
theorem enterWord (args : Array Value) (w : World) : (callFunc 221 args).run Tryz.prog w = .ok (.enter 221 args) w := by kernel_rfl
theorem enterLimbs (args : Array Value) (w : World) : (callFunc 220 args).run Tryz.prog w = .ok (.enter 220 args) w := by kernel_rfl
theorem len17 : Tryz.prog.arrayLen 262 = 17 := by kernel_rfl
theorem sizeB17 (w : World) : (sizeOf (Tryz.prog.elem 262)).run Tryz.prog w = .ok 1 w := by kernel_rfl
theorem sl17a (b : Nat) (w : World) : (Instr.sliceAt 262 (.pointer (some ⟨b, 0, none⟩)) none (some (.int .i64 8)) none).run Tryz.prog w = .ok (.slice (some ⟨b, 0, none⟩) 8 17) w := by simp [go_sem]
theorem sl17b (b : Nat) (w : World) : (Instr.sliceAt 262 (.pointer (some ⟨b, 0, none⟩)) (some (.int .i64 8)) (some (.int .i64 16)) none).run Tryz.prog w = .ok (.slice (some ⟨b, 8, none⟩) 8 9) w := by simp [go_sem]
theorem conv_bu {n : Int} (h : 0 ≤ n ∧ n < 256) (w : World) : (convert 5 98 (.int .u8 n)).run Tryz.prog w = .ok (.int .u64 n) w := by
 simp [go_sem, w64 (z := n) (by omega) (by omega)]
theorem wl_copy {ops : Array Oper} {rest : List Oper} {dt : Option Tmp} {d s' : Operand} {ty : TypeId} {ps : String} {af : Array Edge} {a : Act} {w : World} {Q : Exit → Act → World → Prop}
  {g off dL dC b f sL sC n m : Nat} {t : TypeId} {s r : Nat → Int} (hd : a.eval d = .slice (some ⟨g, off, none⟩) dL dC) (hs : a.eval s' = .slice (some ⟨b, f, none⟩) sL sC) (hg : ArrAt w g .u8 t n s) (hm : m = Nat.min sL dL) (hfit : off + m ≤ n) (hr : ∀ j, j < m → w.cell? ⟨b, f + j, none⟩ = some (.int .u8 (r j)))
  (h : ∀ w', ArrAt w' g .u8 t n (over s off m r) → Only g w w' → wpList Tryz.prog ops Q rest (a.put dt (goInt m)) w') :
  wpList Tryz.prog ops Q ({ dst := dt, op := .call { callee := .builtin .copy, args := #[d, s'], argTypes := #[81, 81] }, type := ty, pos := ps, after := af, guard := none } :: rest) a w :=
 wl_act rfl (act_copy rfl hd hs hg hm hfit hr h)
set_option maxHeartbeats 4000000 in
set_option maxRecDepth 100000 in
theorem numberOf_run (b f n c : Nat) (r : Nat → Int) (w : World) (hn : n ≤ 16) (hr : Byts n r) (hc : ∀ j, j < n → w.cell? ⟨b, f + j, none⟩ = some (.int .u8 (r j))) (hb : b < w.heap.size) :
  Calls Tryz.prog 229 #[.slice (some ⟨b, f, none⟩) n c] w fun e w' => e = .returned (.agg (WA .u64 5 (nblk r n))) ∧ Below w.heap.size w w' := by
 have g0 : ArrAt ((w.alloc (.cells (WA .u64 5 fun _ => 0) 247)).alloc (.cells (WA .u8 17 fun _ => 0) 262)) w.heap.size .u64 247 5 (fun _ => 0) := heap_alloc2_old w _ _
 have g1 : ArrAt ((w.alloc (.cells (WA .u64 5 fun _ => 0) 247)).alloc (.cells (WA .u8 17 fun _ => 0) 262)) (w.heap.size + 1) .u8 262 17 (fun _ => 0) := heap_alloc2_new w _ _
 have hB : Below w.heap.size w ((w.alloc (.cells (WA .u64 5 fun _ => 0) 247)).alloc (.cells (WA .u8 17 fun _ => 0) 262)) := ((Below.refl _ w).alloc (by simp) _).alloc (by simp) _
 have hc2 : ∀ j, j < n → (((w.alloc (.cells (WA .u64 5 fun _ => 0) 247)).alloc (.cells (WA .u8 17 fun _ => 0) 262)) : World).cell? ⟨b, f + j, none⟩ = some (.int .u8 (r j)) := fun j hj => (hB.cell hb).trans (hc j hj)
 have HM8 : Hid (Byts 8 (mkd r n)) := Hid.mk (fun i _ => mkd_b hr i)
 have HM16 : Hid (Byts 8 (fun j => mkd r n (8 + j))) := Hid.mk (fun i _ => mkd_b hr (8 + i))
 have HT := Hid.mk (mkd_b hr 16)
 have HT4 := Hid.mk (mkd_top (r := r) hn)
 have hnL : (n : Int) < 17 := by omega
 clear hc
 go_enter Tryz.func229, Tryz.ntmps229
 go_wp2_with (refine wl_copy (by rfl) (by rfl) g1 (m := n) (r := r) (by show n = min n 17; omega) (by omega) hc2 ?_; intro v1 g2 o2; refine Hid.out ?_)
 replace g0 := g0.only o2 (by omega)
 replace hB := hB.trans (o2.below (by omega))
 clear o2 g1 hc2
 have c1 := g2.cell n (by omega)
 have f1 := g2.free n
 have g1 := g2.set n 1 (by omega)
 replace g0 := g0.other (g := (w.heap.size + 1)) (i := n) (.int .u8 1) (by omega)
 replace hB := Below.setCell (p := ⟨(w.heap.size + 1), n, none⟩) hB (by simp) (.int .u8 1)
 clear g2
 refine Hid.mk ?_
 go_wp2_with fail
 clear c1 f1
 refine wp_gen (fun v => ArrAt v w.heap.size .u64 247 5 (fun _ => 0) ∧ ArrAt v (w.heap.size + 1) .u8 262 17 (mkd r n) ∧ Below w.heap.size w v) ⟨g0, g1, hB⟩ ?_
 clear g0 g1 hB
 rintro v2 ⟨g0, g1, hB⟩
 refine wp_region3 (Below w.heap.size w) v2.heap.size
  [((w.heap.size + 1), fixd (WA .u8 17 (mkd r n)) 262), (w.heap.size, once (WA .u64 5 (fun _ => 0)) 247 8 (WA .u64 5 (nblk r n)))]
  [kv (.slice (some ⟨(w.heap.size + 1), 0, none⟩) 8 17), kv (.int .u64 (dval (mkd r n) 8)), kv (.slice (some ⟨(w.heap.size + 1), 8, none⟩) 8 9), kv (.int .u64 (dval (fun j => mkd r n (8 + j)) 8)), kv (.pointer (some ⟨(w.heap.size + 1), 16, none⟩)), kv (.int .u8 (mkd r n 16)), kv (.int .u64 (mkd r n 16)), kv (.agg (WA .u64 5 (nblk r n))), .val fun _ => True]
  [.none, .none, .none, .none, .none, .none, .none, .none, .base 1 1]
  [some 10, some 11, some 12, some 13, some 14, some 15, some 16, some 17, none]
  [(3, .pointer (some ⟨(w.heap.size + 1), 0, none⟩)), (2, .pointer (some ⟨w.heap.size, 0, none⟩))]
  [[], [.slot 0, .base 0 0], [], [.slot 2, .base 0 0], [], [.slot 4, .base 0 0], [.slot 5], [.slot 1, .slot 3, .slot 6], [.base 1 0, .slot 7]]
  [.base 0 0, .base 1 1] [10, 11, 12, 13, 14, 15, 16, 17]
  rfl (by kernel_rfl) ⟨rfl, rfl, trivial⟩ (Below.drew hB) (Nat.le_refl _) ⟨⟨g1.lt, obIn g1⟩, ⟨g0.lt, obIn g0⟩, trivial⟩ ⟨⟨(show ((w.heap.size + 1) : Nat) ≠ w.heap.size from by omega), trivial⟩, trivial, trivial⟩ (below_G hB.size ⟨by omega, by omega, trivial⟩)
  ⟨
   (fun Q aq ww own hS hBg fr kn => .inl ⟨trivial, fun K hK => wp_value (exec_slH rfl fr.1 rfl (sl17a _ _)) (hK _ _ ⟨Touch.refl _ _, rfl⟩)⟩),
   (fun Q aq ww own hS hBg fr kn => .inl ⟨trivial, fun K hK => stepc enterWord rfl (args1 kn.1) (pword_run (w.heap.size + 1) 0 17 (mkd r n) ww HM8.out (fun j hj => by rw [Nat.zero_add]; exact ArrAt.cell (obAt kn.2.1) j (by omega))) (fun w' hb => hK _ _ ⟨touch_below hb, rfl⟩)⟩),
   (fun Q aq ww own hS hBg fr kn => .inl ⟨trivial, fun K hK => wp_value (exec_slLH rfl fr.1 rfl rfl (sl17b _ _)) (hK _ _ ⟨Touch.refl _ _, rfl⟩)⟩),
   (fun Q aq ww own hS hBg fr kn => .inl ⟨trivial, fun K hK => stepc enterWord rfl (args1 kn.1) (pword_run (w.heap.size + 1) 8 9 (fun j => mkd r n (8 + j)) ww HM16.out (fun j hj => ArrAt.cell (obAt kn.2.1) (8 + j) (by omega))) (fun w' hb => hK _ _ ⟨touch_below hb, rfl⟩)⟩),
   (fun Q aq ww own hS hBg fr kn => .inl ⟨trivial, fun K hK => wp_value (exec_idxA (i := 16) rfl Tryz.underlying262 len17 sizeB17 fr.1 rfl (by decide)) (hK _ _ ⟨Touch.refl _ _, rfl⟩)⟩),
   (fun Q aq ww own hS hBg fr kn => .inl ⟨trivial, fun K hK => wp_value (exec_ld rfl kn.1 (run_load8 (ArrAt.cell (obAt kn.2.1) 16 (by decide)))) (hK _ _ ⟨Touch.refl _ _, rfl⟩)⟩),
   (fun Q aq ww own hS hBg fr kn => .inl ⟨trivial, fun K hK => wp_value (exec_conv rfl kn.1 (conv_bu HT.out _)) (hK _ _ ⟨Touch.refl _ _, rfl⟩)⟩),
   (fun Q aq ww own hS hBg fr kn => .inl ⟨trivial, fun K hK => stepc enterLimbs rfl (args3 kn.1 kn.2.1 kn.2.2.1) (limbsOf_run _ _ _ ww (dval8_b HM8.out) (dval8_b HM16.out) HT4.out) (fun w' hb => hK _ _ ⟨touch_below hb, rfl⟩)⟩),
   (fun Q aq ww own hS hBg fr kn => .inl ⟨trivial, fun K hK => act_arr rfl isL fr.2.1 kn.2.1 (obAt kn.1) (fun w2 hg ho => hK _ _ ⟨⟨touch_only ho, obIn hg⟩, trivial⟩)⟩),
   trivial⟩ ?_
 intro vs own v3 hB3 hs3 kn inj
 clear inj hs3 g0 g1 hB
 have g0 : ArrAt v3 w.heap.size .u64 247 5 (nblk r n) := obAt kn.2.1
 clear kn
 simp only [putAll, Act.put, List.setIfInBounds_toArray, List.set_cons_zero, List.set_cons_succ]
 go_wp2_with fail
 exact bodyPost_ret (res_arr Tryz.results229 isL g0 (by rfl)) rfl ⟨rfl, hB3⟩
end Go.Proofs.YthghcjepdhkfdaaGreatDoor

/-
  Own text. A MAC in memory: its cells; steps over them.
-/
namespace Go.Proofs.YthghcjepdhkfdaaGreatDoor
open Go.RowKit Go.Proofs
set_option maxRecDepth 100000
def macV (R S Z H : Nat → Int) (l : Int) (i : Nat) : Value := if i < 5 then .int .u64 (R i) else if i < 7 then .int .u64 (S (i - 5)) else if i < 12 then .int .u64 (Z (i - 7)) else if i < 28 then .int .u8 (H (i - 12)) else .int .i64 l
def macC (R S Z H : Nat → Int) (l : Int) : Array Value := ((List.range 29).map (macV R S Z H l)).toArray
theorem macC_size (R S Z H : Nat → Int) (l : Int) : (macC R S Z H l).size = 29 := by simp [macC]
theorem macC_get (R S Z H : Nat → Int) (l : Int) (i : Nat) (h : i < 29) : (macC R S Z H l)[i]? = some (macV R S Z H l i) := by simp [macC, h]
theorem macC_ext {cs : Array Value} {R S Z H : Nat → Int} {l : Int} (hs : cs.size = 29) (h : ∀ i, i < 29 → cs[i]? = some (macV R S Z H l i)) : cs = macC R S Z H l := by
 apply Array.ext_getElem?
 intro i
 by_cases hi : i < 29
 ·rw [h i hi, macC_get R S Z H l i hi]
 ·rw [Array.getElem?_eq_none (by omega), Array.getElem?_eq_none (by rw [macC_size]; omega)]
def MacAt (w : World) (b : Nat) (R S Z H : Nat → Int) (l : Int) : Prop := w.heap[b]? = some (.cells (macC R S Z H l) 251 (0, 0))
theorem MacAt.at {w : World} {b : Nat} {R S Z H : Nat → Int} {l : Int} (h : MacAt w b R S Z H l) (i : Nat) (hi : i < 29) : w.cell? ⟨b, i, none⟩ = some (macV R S Z H l i) := by
 rw [cell_of_row w b i _ _ _ h, macC_get R S Z H l i hi]
theorem MacAt.free {w : World} {b : Nat} {R S Z H : Nat → Int} {l : Int} (h : MacAt w b R S Z H l) (i : Nat) : w.frozen? ⟨b, i, none⟩ = false := frozen_of_row w b i _ _ h
theorem MacAt.lt {w : World} {b : Nat} {R S Z H : Nat → Int} {l : Int} (h : MacAt w b R S Z H l) : b < w.heap.size := heap_lt h
theorem MacAt.block {w w' : World} {b : Nat} {R S Z H : Nat → Int} {l : Int} (h : MacAt w b R S Z H l) (e : w'.heap[b]? = w.heap[b]?) : MacAt w' b R S Z H l := e.trans h
theorem MacAt.kept {w w' : World} {b : Nat} {R S Z H : Nat → Int} {l : Int} (h : MacAt w b R S Z H l) (hb : Below w.heap.size w w') : MacAt w' b R S Z H l := h.block (hb.block b h.lt)
theorem MacAt.below {B : Nat} {w w' : World} {b : Nat} {R S Z H : Nat → Int} {l : Int} (h : MacAt w b R S Z H l) (hb : Below B w w') (hB : b < B) : MacAt w' b R S Z H l := h.block (hb.block b hB)
theorem MacAt.alloc {w : World} {b : Nat} {R S Z H : Nat → Int} {l : Int} (h : MacAt w b R S Z H l) (o : Obj) : MacAt (w.alloc o) b R S Z H l := h.block (Below.heap_alloc _ _ _ h.lt)
theorem MacAt.drew {w : World} {b : Nat} {R S Z H : Nat → Int} {l : Int} (h : MacAt w b R S Z H l) : MacAt w.drew b R S Z H l := h
theorem MacAt.r {w : World} {b : Nat} {R S Z H : Nat → Int} {l : Int} (h : MacAt w b R S Z H l) : w.rangeAt b 0 (nums .u64 5 R) := fun j v hj => by
 obtain ⟨hj2, rfl⟩ := nums_get hj
 rw [Nat.zero_add, h.at j (by omega)]
 unfold macV
 rw [if_pos hj2]
theorem MacAt.s {w : World} {b : Nat} {R S Z H : Nat → Int} {l : Int} (h : MacAt w b R S Z H l) : w.rangeAt b 5 (nums .u64 2 S) := fun j v hj => by
 obtain ⟨hj2, rfl⟩ := nums_get hj
 rw [h.at (5 + j) (by omega)]
 unfold macV
 rw [if_neg (by omega), if_pos (by omega), Nat.add_sub_cancel_left]
theorem MacAt.sum {w : World} {b : Nat} {R S Z H : Nat → Int} {l : Int} (h : MacAt w b R S Z H l) : w.rangeAt b 7 (nums .u64 5 Z) := fun j v hj => by
 obtain ⟨hj2, rfl⟩ := nums_get hj
 rw [h.at (7 + j) (by omega)]
 unfold macV
 rw [if_neg (by omega), if_neg (by omega), if_pos (by omega), Nat.add_sub_cancel_left]
theorem MacAt.rest {w : World} {b : Nat} {R S Z H : Nat → Int} {l : Int} (h : MacAt w b R S Z H l) (j : Nat) (hj : j < 16) : w.cell? ⟨b, 12 + j, none⟩ = some (.int .u8 (H j)) := by
 rw [h.at (12 + j) (by omega)]
 unfold macV
 rw [if_neg (by omega), if_neg (by omega), if_neg (by omega), if_pos (by omega), Nat.add_sub_cancel_left]
theorem MacAt.held {w : World} {b : Nat} {R S Z H : Nat → Int} {l : Int} (h : MacAt w b R S Z H l) : w.cell? ⟨b, 28, none⟩ = some (.int .i64 l) := h.at 28 (by decide)
theorem MacAt.cells {w : World} {b o : Nat} {R S Z H : Nat → Int} {l : Int} (h : MacAt w b R S Z H l) (vs : List Value) (hl : o + vs.length ≤ 29) {R' S' Z' H' : Nat → Int} {l' : Int}
  (h1 : ∀ j, j < vs.length → vs[j]? = some (macV R' S' Z' H' l' (o + j))) (h2 : ∀ i, i < 29 → i < o ∨ o + vs.length ≤ i → macV R' S' Z' H' l' i = macV R S Z H l i) : MacAt (w.setCells b o vs) b R' S' Z' H' l' ∧ Only b w (w.setCells b o vs) := by
 obtain ⟨C', k1, k2, k3, k4, k5⟩ := setCells_heap vs o w _ h (by rw [macC_size]; exact hl)
 refine ⟨?_, k5⟩
 have e : C' = macC R' S' Z' H' l' := by
  refine macC_ext (by rw [k2, macC_size]) (fun i hi => ?_)
  by_cases c : i < o ∨ o + vs.length ≤ i
  ·rw [k4 i c, macC_get _ _ _ _ _ i hi, h2 i hi c]
  ·have := k3 (i - o) (by omega)
   rw [show o + (i - o) = i by omega] at this
   rw [this, h1 (i - o) (by omega), show o + (i - o) = i by omega]
 unfold MacAt
 rw [← e]
 exact k1
theorem MacAt.setSum {w : World} {b : Nat} {R S Z H : Nat → Int} {l : Int} (h : MacAt w b R S Z H l) (Z' : Nat → Int) : MacAt (w.setCells b 7 (nums .u64 5 Z')) b R S Z' H l ∧ Only b w (w.setCells b 7 (nums .u64 5 Z')) := by
 refine h.cells (nums .u64 5 Z') (by rw [nums_len]; omega) (fun j hj => ?_) (fun i hi hc => ?_)
 ·rw [nums_len] at hj
  rw [nums_at .u64 5 Z' hj]
  unfold macV
  rw [if_neg (by omega), if_neg (by omega), if_pos (by omega), Nat.add_sub_cancel_left]
 ·rw [nums_len] at hc
  unfold macV
  split
  ·rfl
  split
  ·rfl
  split
  ·omega
  ·rfl
theorem MacAt.setRest {w : World} {b : Nat} {R S Z H : Nat → Int} {l : Int} (h : MacAt w b R S Z H l) (o m : Nat) (r : Nat → Int) (hm : o + m ≤ 16) : MacAt (w.setCells b (12 + o) (nums .u8 m r)) b R S Z (over H o m r) l ∧ Only b w (w.setCells b (12 + o) (nums .u8 m r)) := by
 refine h.cells (nums .u8 m r) (by rw [nums_len]; omega) (fun j hj => ?_) (fun i hi hc => ?_)
 ·rw [nums_len] at hj
  rw [nums_at .u8 m r hj]
  unfold macV over
  rw [if_neg (by omega), if_neg (by omega), if_neg (by omega), if_pos (by omega), if_pos (by omega), show 12 + o + j - 12 - o = j by omega]
 ·rw [nums_len] at hc
  unfold macV over
  split
  ·rfl
  split
  ·rfl
  split
  ·rfl
  split
  ·rw [if_neg (by omega)]
  ·rfl
theorem MacAt.setHeld {w : World} {b : Nat} {R S Z H : Nat → Int} {l : Int} (h : MacAt w b R S Z H l) (l' : Int) : MacAt (w.setCell ⟨b, 28, none⟩ (.int .i64 l')) b R S Z H l' := by
 have h1 := (h.cells (o := 28) [.int .i64 l'] (by simp) (R' := R) (S' := S) (Z' := Z) (H' := H) (l' := l') (fun j hj => by
  have : j = 0 := by simpa using hj
  subst this
  rfl) (fun i hi hc => by
   simp at hc
   unfold macV
   split
   ·rfl
   split
   ·rfl
   split
   ·rfl
   split
   ·rfl
   ·omega)).1
 exact h1
theorem run_fm (b k : Nat) (w : World) : k < 5 → (Instr.fieldAt 251 (.pointer (some ⟨b, 0, none⟩)) k).run Tryz.prog w = .ok (.pointer (some ⟨b, [0, 5, 7, 12, 28].getD k 0, none⟩)) w := by
 intro hk
 match k, hk with
 | 0, _ => simp [go_sem]
 | 1, _ => simp [go_sem]
 | 2, _ => simp [go_sem]
 | 3, _ => simp [go_sem]
 | 4, _ => simp [go_sem]
theorem exec_fm {a : Act} {o : Oper} {w : World} {x : Operand} {k : Nat} (ho : o.op = .fieldAddr 251 x k) {b : Nat} (hx : a.eval x = .pointer (some ⟨b, 0, none⟩)) (hk : k < 5) : (execOp a.eval o).run Tryz.prog w = .ok (.value (.pointer (some ⟨b, [0, 5, 7, 12, 28].getD k 0, none⟩))) w := by
 have h := run_fm b k w hk
 unfold execOp
 simp only [ho, hx, Sem.run_bind, h, Result.andThen_ok, Sem.run_pure]
theorem enterNumber (args : Array Value) (w : World) : (callFunc 229 args).run Tryz.prog w = .ok (.enter 229 args) w := by kernel_rfl
theorem enterPlus (args : Array Value) (w : World) : (callFunc 228 args).run Tryz.prog w = .ok (.enter 228 args) w := by kernel_rfl
theorem enterTimes (args : Array Value) (w : World) : (callFunc 227 args).run Tryz.prog w = .ok (.enter 227 args) w := by kernel_rfl
theorem enterBehind (args : Array Value) (w : World) : (callFunc 223 args).run Tryz.prog w = .ok (.enter 223 args) w := by kernel_rfl
theorem enterMark (args : Array Value) (w : World) : (callFunc 224 args).run Tryz.prog w = .ok (.enter 224 args) w := by kernel_rfl
end Go.Proofs.YthghcjepdhkfdaaGreatDoor

/-
  Own text. What plus of package poly answers: a contract over the translation.
-/
namespace Go.Proofs.YthghcjepdhkfdaaGreatDoor
open Go.RowKit Go.Proofs
set_option maxRecDepth 100000
set_option maxHeartbeats 4000000 in
theorem pplus_run (x y : Nat → Int) (w : World) (hx : Dg 4611686018427387904 5 x) (hy : Dg 4611686018427387904 5 y) :
  Calls Tryz.prog 228 #[.agg (WA .u64 5 x), .agg (WA .u64 5 y)] w fun e w' => e = .returned (.agg (WA .u64 5 fun i => x i + y i)) ∧ Below w.heap.size w w' := by
 have g0 : ArrAt (((w.alloc (.cells (WA .u64 5 x) 247)).alloc (.cells (WA .u64 5 y) 247)).alloc (.cells (WA .u64 5 fun _ => 0) 247)) w.heap.size .u64 247 5 x := heap_a31 w _ _ _
 have g1 : ArrAt (((w.alloc (.cells (WA .u64 5 x) 247)).alloc (.cells (WA .u64 5 y) 247)).alloc (.cells (WA .u64 5 fun _ => 0) 247)) (w.heap.size + 1) .u64 247 5 y := heap_a32 w _ _ _
 have g2 : ArrAt (((w.alloc (.cells (WA .u64 5 x) 247)).alloc (.cells (WA .u64 5 y) 247)).alloc (.cells (WA .u64 5 fun _ => 0) 247)) (w.heap.size + 1 + 1) .u64 247 5 (fun _ => 0) := heap_a3 w _ _ _
 have hB : Below w.heap.size w (((w.alloc (.cells (WA .u64 5 x) 247)).alloc (.cells (WA .u64 5 y) 247)).alloc (.cells (WA .u64 5 fun _ => 0) 247)) := (((Below.refl _ w).alloc (by simp) _).alloc (by simp) _).alloc (by simp; omega) _
 go_enter Tryz.func228, Tryz.ntmps228
 go_wp2_with fail
 go_loopg [6] 5 (fun gm iv v => ∃ i : Nat, Hid (gm + i = 5) ∧ iv = .int .i64 (i : Int) ∧ ArrAt v w.heap.size .u64 247 5 (qadd x y i) ∧ ArrAt v (w.heap.size + 1) .u64 247 5 y ∧ ArrAt v (w.heap.size + 1 + 1) .u64 247 5 (fun _ => 0) ∧ Below w.heap.size w v)
 case atStart => exact ⟨0, Hid.mk rfl, rfl, g0.congr (fun j _ => by unfold qadd; rw [if_neg (by omega)]), g1, g2, hB⟩
 case round =>
  clear g0 g1 g2 hB
  obtain ⟨i, HI, rfl, g0, g1, g2, hB⟩ := hrel
  have hi5 : i ≤ 5 := by have := HI.out; omega
  by_cases hil : i < 5
  ·have ck := g0.cell i (by omega)
   have fr := g0.free i
   have cy := g1.cell i (by omega)
   have hxi := hx i hil
   have hyi := hy i hil
   have e0 : qadd x y i i = x i := by unfold qadd; rw [if_neg (by omega)]
   rw [e0] at ck
   have hw := w64 (z := x i + y i) (by omega) (by omega)
   have HS := Hid.mk (qadd_step x y i)
   rw [e0] at HS
   clear e0
   go_wp2_with fail
   go_region
   go_wp2_with fail
   go_roundg (5 - (i + 1))
   case rel =>
    refine ⟨i + 1, Hid.mk (by omega), by go_num, ?_, g1.other _ (by omega), g2.other _ (by omega), (Below.setCell hB (by simp) _).drew⟩
    rw [← HS.out]
    exact g0.set i _ hil
   case measure => have := HI.out; omega
  ·have hi2 : i = 5 := by omega
   subst hi2
   replace g0 := g0.congr (s' := fun i => x i + y i) (fun j hj => by unfold qadd; rw [if_pos hj])
   go_wp2_with (first | refine ld_arr isL g0 (by rfl) ?_ | (refine st_arr isL g2 (by rfl) (by rfl) ?_; intro w2 g3 o2; refine Hid.out ?_))
   refine Hid.mk ?_
   go_wp2_with fail
   refine bodyPost_ret (v := .agg (WA .u64 5 fun i => x i + y i)) (res_arr Tryz.results228 isL g3 (by rfl)) rfl ⟨rfl, ?_⟩
   exact hB.trans (o2.below (by omega))
end Go.Proofs.YthghcjepdhkfdaaGreatDoor

/-
  Own text. What behind of package poly answers: a contract over the translation.
-/
namespace Go.Proofs.YthghcjepdhkfdaaGreatDoor
open Go.RowKit Go.Proofs
set_option maxRecDepth 100000
theorem behind_num (Z H : Nat → Int) (n : Nat) (hn : n ≤ 16) : qv (fun i => Z i + nblk H n i) 5 = qv Z 5 + (dval H n + 256 ^ n) := by
 rw [qv_sum Z (nblk H n), nblk_num hn]
set_option maxHeartbeats 4000000 in
set_option maxRecDepth 100000 in
theorem behind_run (b n c : Nat) (R S Z H : Nat → Int) (l : Int) (w : World) (hM : MacAt w b R S Z H l) (hZ : Sm Z) (hR : Dg 67108864 5 R) (hH : Byts 16 H) (hn : n ≤ 16) :
  Calls Tryz.prog 223 #[.pointer (some ⟨b, 0, none⟩), .slice (some ⟨b, 12, none⟩) n c] w fun e w' => ∃ z, Sm z ∧ (∃ q, (qv Z 5 + (dval H n + 256 ^ n)) * qv R 5 = qv z 5 + P130 * q) ∧ e = .returned (.agg (WA .u64 5 z)) ∧ Below w.heap.size w w' := by
 have g0 : ArrAt (w.alloc (.cells (WA .u64 5 fun _ => 0) 247)) w.heap.size .u64 247 5 (fun _ => 0) := heap_alloc_new w _
 have hB : Below w.heap.size w (w.alloc (.cells (WA .u64 5 fun _ => 0) 247)) := (Below.refl _ w).alloc (Nat.le_refl _) _
 have hlt := hM.lt
 have hHn : Byts n H := fun i hi => hH i (by omega)
 have hd := hZ.dg
 have hbd := nblk_dg hHn hn
 have HN := Hid.mk hn
 have HM : Hid (∀ v, Below w.heap.size w v → MacAt v b R S Z H l) := Hid.mk (fun v hv => hM.below hv hlt)
 have HH := Hid.mk hHn
 have HZ1 : Hid (Dg 4611686018427387904 5 Z) := Hid.mk (fun i hi => by have := hd i hi; omega)
 have HB1 : Hid (Dg 4611686018427387904 5 (nblk H n)) := Hid.mk (fun i hi => by have := hbd i hi; omega)
 have hq := behind_num Z H n hn
 have HTM : Hid (∀ ww : World, Calls Tryz.prog 227 #[.agg (WA .u64 5 fun i => Z i + nblk H n i), .agg (WA .u64 5 R)] ww fun e w' => ∃ z, Sm z ∧ (∃ q, (qv Z 5 + (dval H n + 256 ^ n)) * qv R 5 = qv z 5 + P130 * q) ∧ e = .returned (.agg (WA .u64 5 z)) ∧ Below ww.heap.size ww w') := Hid.mk (fun ww => by
  rw [← hq]
  exact ptimes_run _ R ww (fun i hi => by have h1 := hd i hi; have h2 := hbd i hi; show 0 ≤ Z i + nblk H n i ∧ Z i + nblk H n i < 268435456; omega) hR)
 clear hM hZ hR hH hHn hd hbd hq
 go_enter Tryz.func223, Tryz.ntmps223
 go_wp2_with fail
 refine wp_gen (fun v => ArrAt v w.heap.size .u64 247 5 (fun _ => 0) ∧ Below w.heap.size w v) ⟨g0, hB⟩ ?_
 clear g0 hB
 rintro v2 ⟨g0, hB⟩
 refine wp_region3 (Below w.heap.size w) v2.heap.size
  [(w.heap.size, ⟨isOb (WA .u64 5 fun _ => 0) 247, [(12, fun ob => ∃ z, Sm z ∧ (∃ q, (qv Z 5 + (dval H n + 256 ^ n)) * qv R 5 = qv z 5 + P130 * q) ∧ ob = .cells (WA .u64 5 z) 247 (0, 0))]⟩)]
  [kv (.pointer (some ⟨b, 0, none⟩)), kv (.pointer (some ⟨b, 0, none⟩)), kv (.pointer (some ⟨b, 7, none⟩)), kv (.agg (WA .u64 5 Z)), kv (.slice (some ⟨b, 12, none⟩) n c), kv (.agg (WA .u64 5 (nblk H n))), kv (.agg (WA .u64 5 fun i => Z i + nblk H n i)), kv (.pointer (some ⟨b, 0, none⟩)), kv (.pointer (some ⟨b, 0, none⟩)), kv (.pointer (some ⟨b, 0, none⟩)), kv (.agg (WA .u64 5 R)), .val fun v => ∃ z, Sm z ∧ (∃ q, (qv Z 5 + (dval H n + 256 ^ n)) * qv R 5 = qv z 5 + P130 * q) ∧ v = .agg (WA .u64 5 z), .val fun _ => True]
  [.none, .none, .none, .none, .none, .none, .none, .none, .none, .none, .none, .none, .base 0 1]
  [some 5, some 6, some 7, some 8, some 9, some 10, some 11, some 12, some 13, some 14, some 15, some 16, none]
  [(0, .pointer (some ⟨b, 0, none⟩)), (1, .slice (some ⟨b, 12, none⟩) n c), (4, .pointer (some ⟨w.heap.size, 0, none⟩))]
  [[], [.slot 0], [.slot 1], [.slot 2], [], [.slot 4], [.slot 3, .slot 5], [], [.slot 7], [.slot 8], [.slot 9], [.slot 6, .slot 10], [.base 0 0, .slot 11]]
  [.base 0 1] [5, 6, 7, 8, 9, 10, 11, 12, 13, 14, 15, 16]
  rfl (by kernel_rfl) ⟨rfl, rfl, rfl, trivial⟩ (Below.drew hB) (Nat.le_refl _) ⟨⟨g0.lt, obIn g0⟩, trivial⟩ ⟨trivial, trivial⟩ (below_G hB.size ⟨by omega, trivial⟩)
  ⟨
   (fun Q aq ww own hS hBg fr kn => .inl ⟨trivial, fun K hK => wp_value (exec_move rfl fr.1) (hK _ _ ⟨Touch.refl _ _, rfl⟩)⟩),
   (fun Q aq ww own hS hBg fr kn => .inl ⟨trivial, fun K hK => wp_value (exec_nilc rfl kn.1) (hK _ _ ⟨Touch.refl _ _, rfl⟩)⟩),
   (fun Q aq ww own hS hBg fr kn => .inl ⟨trivial, fun K hK => wp_value (exec_fm (k := 2) rfl kn.1 (by decide)) (hK _ _ ⟨Touch.refl _ _, rfl⟩)⟩),
   (fun Q aq ww own hS hBg fr kn => .inl ⟨trivial, fun K hK => wp_value (exec_ldmid rfl isL kn.1 (HM.out ww hS).sum) (hK _ _ ⟨Touch.refl _ _, rfl⟩)⟩),
   (fun Q aq ww own hS hBg fr kn => .inl ⟨trivial, fun K hK => wp_value (exec_move rfl fr.2.1) (hK _ _ ⟨Touch.refl _ _, rfl⟩)⟩),
   (fun Q aq ww own hS hBg fr kn => .inl ⟨trivial, fun K hK => stepc enterNumber rfl (args1 kn.1) (numberOf_run b 12 n c H ww HN.out HH.out (fun j hj => (HM.out ww hS).rest j (by have := HN.out; omega)) (HM.out ww hS).lt) (fun w' hb => hK _ _ ⟨touch_below hb, rfl⟩)⟩),
   (fun Q aq ww own hS hBg fr kn => .inl ⟨trivial, fun K hK => stepc enterPlus rfl (args2 kn.1 kn.2.1) (pplus_run Z (nblk H n) ww HZ1.out HB1.out) (fun w' hb => hK _ _ ⟨touch_below hb, rfl⟩)⟩),
   (fun Q aq ww own hS hBg fr kn => .inl ⟨trivial, fun K hK => wp_value (exec_move rfl fr.1) (hK _ _ ⟨Touch.refl _ _, rfl⟩)⟩),
   (fun Q aq ww own hS hBg fr kn => .inl ⟨trivial, fun K hK => wp_value (exec_nilc rfl kn.1) (hK _ _ ⟨Touch.refl _ _, rfl⟩)⟩),
   (fun Q aq ww own hS hBg fr kn => .inl ⟨trivial, fun K hK => wp_value (exec_fm (k := 0) rfl kn.1 (by decide)) (hK _ _ ⟨Touch.refl _ _, rfl⟩)⟩),
   (fun Q aq ww own hS hBg fr kn => .inl ⟨trivial, fun K hK => wp_value (exec_ldmid rfl isL kn.1 (HM.out ww hS).r) (hK _ _ ⟨Touch.refl _ _, rfl⟩)⟩),
   (fun Q aq ww own hS hBg fr kn => .inl ⟨trivial, fun K hK => stepp enterTimes rfl (args2 kn.1 kn.2.1) ((HTM.out ww).mono (fun e w' ⟨z, h1, h2, h3, h4⟩ => ⟨_, h3, ⟨z, h1, h2, rfl⟩, h4⟩)) (R := fun v w' => (∃ z, Sm z ∧ (∃ q, (qv Z 5 + (dval H n + 256 ^ n)) * qv R 5 = qv z 5 + P130 * q) ∧ v = .agg (WA .u64 5 z)) ∧ Below ww.heap.size ww w') (fun v w' ⟨h1, h2⟩ => hK _ _ ⟨touch_below h2, h1⟩)⟩),
   (fun Q aq ww own hS hBg fr kn => .inl ⟨trivial, fun K hK => (by obtain ⟨z, h1, h2, h3⟩ := kn.2.1; exact act_arr rfl isL fr.2.2.1 h3 (obAt kn.1) (fun w2 hg ho => hK _ _ ⟨⟨touch_only ho, ⟨_, hg, z, h1, h2, rfl⟩⟩, trivial⟩))⟩),
   trivial⟩ ?_
 intro vs own v3 hB3 hs3 kn inj
 clear inj hs3 g0 hB
 obtain ⟨ob, hob, z, h1, h2, rfl⟩ := kn.1
 have g0 : ArrAt v3 w.heap.size .u64 247 5 z := hob
 clear kn
 simp only [putAll, Act.put, List.setIfInBounds_toArray, List.set_cons_zero, List.set_cons_succ]
 go_wp2_with fail
 exact bodyPost_ret (res_arr Tryz.results223 isL g0 (by rfl)) rfl ⟨z, h1, h2, rfl, hB3⟩
end Go.Proofs.YthghcjepdhkfdaaGreatDoor

/-
  Own text. The walk of Tag of the document's answer for poly, its first loop: the digits of r.
-/
namespace Go.Proofs.YthghcjepdhkfdaaGreatDoor
open Go.RowKit Go.Proofs
set_option maxRecDepth 100000
end Go.Proofs.YthghcjepdhkfdaaGreatDoor

/-
  Own text. The document's Tag of a text within the reach.
-/
namespace Go.Proofs.YthghcjepdhkfdaaGreatDoor
open Go.RowKit Go.Proofs Go.Lib
set_option maxRecDepth 100000
end Go.Proofs.YthghcjepdhkfdaaGreatDoor

/-
  Own text. What a MAC stands for: the blocks so far, and what is left of one.
-/
namespace Go.Proofs.YthghcjepdhkfdaaGreatDoor
open Go.RowKit Go.Proofs
set_option maxRecDepth 100000
theorem accN_eq {r : Int} {f f' : Nat → Int} {n n' : Nat} : ∀ (k : Nat), 16 * k ≤ n → 16 * k ≤ n' → (∀ i, i < 16 * k → f i = f' i) → accN r f n k = accN r f' n' k
 | 0, _, _, _ => rfl
 | k + 1, h1, h2, h => by
  unfold accN
  rw [accN_eq (n := n) (n' := n') (f := f) (f' := f') k (by omega) (by omega) (fun i hi => h i (by omega)), show min 16 (n - 16 * k) = 16 by omega, show min 16 (n' - 16 * k) = 16 by omega]
  unfold blkN
  rw [dval_congr (t := fun i => f' (16 * k + i)) (fun i hi => h _ (by omega))]
structure St (key f : Nat → Int) (n : Nat) (R S Z H : Nat → Int) : Prop where
 rd : Dg 67108864 5 R
 rn : qv R 5 = rN key
 s0 : U64 (S 0)
 s1 : U64 (S 1)
 sn : S 0 + 18446744073709551616 * S 1 = sN key
 zs : Sm Z
 zn : qv Z 5 % P130 = accN (rN key) f n (n / 16)
 hb : Byts 16 H
 he : ∀ j, j < n % 16 → H j = f (16 * (n / 16) + j)
theorem St.congr {key f f' : Nat → Int} {n : Nat} {R S Z H : Nat → Int} (h : St key f n R S Z H) (e : ∀ i, i < n → f i = f' i) : St key f' n R S Z H :=
 ⟨h.rd, h.rn, h.s0, h.s1, h.sn, h.zs, by rw [h.zn]; exact accN_eq (n / 16) (by omega) (by omega) (fun i hi => e i (by omega)), h.hb, fun j hj => by rw [h.he j hj]; exact e _ (by omega)⟩
theorem acc_step {A B r Y q : Int} (h : (A + B) * r = Y + P130 * q) : Y % P130 = (A % P130 + B) * r % P130 := by
 have e : Y = (A + B) * r + P130 * (-q) := by rw [Int.mul_neg]; omega
 rw [e, Int.add_mul_emod_self_left, Int.mul_emod, ← Int.emod_add_emod, ← Int.mul_emod]
theorem St.part {key f : Nat → Int} {n m : Nat} {R S Z H H' : Nat → Int} (h : St key f n R S Z H) (hm : n % 16 + m < 16) (hb : Byts 16 H') (he : ∀ j, j < n % 16 + m → H' j = f (16 * (n / 16) + j)) : St key f (n + m) R S Z H' := by
 have e1 : (n + m) / 16 = n / 16 := by omega
 have e2 : (n + m) % 16 = n % 16 + m := by omega
 refine ⟨h.rd, h.rn, h.s0, h.s1, h.sn, h.zs, ?_, hb, fun j hj => ?_⟩
 ·rw [h.zn, e1]
  exact accN_eq _ (by omega) (by omega) (fun _ _ => rfl)
 ·rw [e2] at hj
  rw [e1]
  exact he j hj
theorem St.full {key f : Nat → Int} {n m : Nat} {R S Z H H' z : Nat → Int} (h : St key f n R S Z H) (hm : n % 16 + m = 16) (hb : Byts 16 H') (he : ∀ j, j < 16 → H' j = f (16 * (n / 16) + j)) (hz : Sm z)
  {q : Int} (hq : (qv Z 5 + (dval H' 16 + 256 ^ 16)) * qv R 5 = qv z 5 + P130 * q) : St key f (n + m) R S z H' := by
 have e1 : (n + m) / 16 = n / 16 + 1 := by omega
 have e2 : (n + m) % 16 = 0 := by omega
 refine ⟨h.rd, h.rn, h.s0, h.s1, h.sn, hz, ?_, hb, fun j hj => by omega⟩
 rw [acc_step hq, h.zn, h.rn, e1]
 show _ = (accN (rN key) f (n + m) (n / 16) + blkN f (16 * (n / 16)) (min 16 (n + m - 16 * (n / 16)))) * rN key % P130
 rw [show min 16 (n + m - 16 * (n / 16)) = 16 by omega, accN_eq (n := n) (n' := n + m) (f := f) (f' := f) (n / 16) (by omega) (by omega) (fun _ _ => rfl)]
 unfold blkN
 rw [dval_congr he]
theorem St.left {key f : Nat → Int} {n : Nat} {R S Z H z : Nat → Int} (h : St key f n R S Z H) (hn : 0 < n % 16) {q : Int} (hq : (qv Z 5 + (dval H (n % 16) + 256 ^ (n % 16))) * qv R 5 = qv z 5 + P130 * q) :
  (qv z 5 % P130 + (S 0 + 18446744073709551616 * S 1)) % 340282366920938463463374607431768211456 = markN key f n := by
 unfold markN
 rw [acc_step hq, h.zn, h.rn, h.sn, show (n + 15) / 16 = n / 16 + 1 by omega]
 show _ = ((accN (rN key) f n (n / 16) + blkN f (16 * (n / 16)) (min 16 (n - 16 * (n / 16)))) * rN key % P130 + sN key) % 340282366920938463463374607431768211456
 rw [show min 16 (n - 16 * (n / 16)) = n % 16 by omega]
 unfold blkN
 rw [dval_congr h.he]
theorem St.none {key f : Nat → Int} {n : Nat} {R S Z H : Nat → Int} (h : St key f n R S Z H) (hn : n % 16 = 0) :
  (qv Z 5 % P130 + (S 0 + 18446744073709551616 * S 1)) % 340282366920938463463374607431768211456 = markN key f n := by
 unfold markN
 rw [h.zn, h.sn, show (n + 15) / 16 = n / 16 by omega]
def MacN (w : World) (b : Nat) (key f : Nat → Int) (n : Nat) : Prop := ∃ R S Z H, MacAt w b R S Z H ((n % 16 : Nat) : Int) ∧ St key f n R S Z H
theorem MacN.congr {w : World} {b : Nat} {key f f' : Nat → Int} {n : Nat} (h : MacN w b key f n) (e : ∀ i, i < n → f i = f' i) : MacN w b key f' n := by
 obtain ⟨R, S, Z, H, h, hs⟩ := h
 exact ⟨R, S, Z, H, h, hs.congr e⟩
theorem Only.touch {b : Nat} {w w' : World} (h : Only b w w') : Touch (fun k => k = b) w w' := touch_only h
theorem Below.touch {w w' : World} (b : Nat) (h : Below w.heap.size w w') : Touch (fun k => k = b) w w' := ⟨h.os, h.tape, h.output, h.size, fun k hk _ => h.block k hk⟩
-- r and s out of the key
theorem and_split (A B M N k : Nat) (hA : A < 2 ^ k) (hM : M < 2 ^ k) : (A + 2 ^ k * B) &&& (M + 2 ^ k * N) = (A &&& M) + 2 ^ k * (B &&& N) := by
 apply Nat.eq_of_testBit_eq
 intro i
 have h1 : A &&& M < 2 ^ k := Nat.lt_of_le_of_lt Nat.and_le_left hA
 rw [Nat.testBit_and, Nat.add_comm A, Nat.add_comm M, Nat.add_comm (A &&& M), Nat.testBit_two_pow_mul_add _ hA, Nat.testBit_two_pow_mul_add _ hM, Nat.testBit_two_pow_mul_add _ h1]
 split
 ·rw [Nat.testBit_and]
 ·rw [Nat.testBit_and]
theorem and28 (A : Nat) : A &&& 268435455 = A % 268435456 := Nat.and_two_pow_sub_one_eq_mod A 28
theorem and28c (A : Nat) : A &&& 268435452 = A % 268435456 / 4 * 4 := by
 have h := and_split (A % 4) (A / 4) 0 67108863 2 (by omega) (by decide)
 rw [show A % 4 + 2 ^ 2 * (A / 4) = A by omega, show 0 + 2 ^ 2 * 67108863 = 268435452 from rfl, Nat.and_zero] at h
 have h2 : A / 4 &&& 67108863 = A / 4 % 67108864 := Nat.and_two_pow_sub_one_eq_mod (A / 4) 26
 rw [h, h2]
 omega
theorem and_lowR {x : Int} (h0 : 0 ≤ x) (h1 : x < 18446744073709551616) : bits BinOp.and IntKind.u64 x 1152921487695413247 = x % 268435456 + 4294967296 * (x / 4294967296 % 268435456 / 4 * 4) := by
 obtain ⟨n, rfl⟩ := Int.eq_ofNat_of_zero_le h0
 have h := and_split (n % 4294967296) (n / 4294967296) 268435455 268435452 32 (by omega) (by decide)
 rw [show n % 4294967296 + 2 ^ 32 * (n / 4294967296) = n by omega, show 268435455 + 2 ^ 32 * 268435452 = 1152921487695413247 from rfl, and28, and28c] at h
 rw [show (1152921487695413247 : Int) = ((1152921487695413247 : Nat) : Int) from rfl, bits_and_u64_nat _ _ (by omega) (by omega), h]
 omega
theorem and_highR {x : Int} (h0 : 0 ≤ x) (h1 : x < 18446744073709551616) : bits BinOp.and IntKind.u64 x 1152921487695413244 = x % 268435456 / 4 * 4 + 4294967296 * (x / 4294967296 % 268435456 / 4 * 4) := by
 obtain ⟨n, rfl⟩ := Int.eq_ofNat_of_zero_le h0
 have h := and_split (n % 4294967296) (n / 4294967296) 268435452 268435452 32 (by omega) (by decide)
 rw [show n % 4294967296 + 2 ^ 32 * (n / 4294967296) = n by omega, show 268435452 + 2 ^ 32 * 268435452 = 1152921487695413244 from rfl, and28c, and28c] at h
 rw [show (1152921487695413244 : Int) = ((1152921487695413244 : Nat) : Int) from rfl, bits_and_u64_nat _ _ (by omega) (by omega), h]
 omega
theorem dval8 (s : Nat → Int) : dval s 8 = s 0 + 256 * s 1 + 65536 * s 2 + 16777216 * s 3 + 4294967296 * s 4 + 1099511627776 * s 5 + 281474976710656 * s 6 + 72057594037927936 * s 7 := by
 simp only [dval, Int.reducePow, Int.pow_zero]
 omega
theorem low_r {key : Nat → Int} (hk : Byts 32 key) : bits BinOp.and IntKind.u64 (dval key 8) 1152921487695413247 = dval (rdig key) 8 := by
 have hb := dval8_b (s := key) (fun i hi => hk i (by omega))
 rw [and_lowR hb.1 hb.2, dval8 key, dval8 (rdig key)]
 have h0 := hk 0 (by decide)
 have h1 := hk 1 (by decide)
 have h2 := hk 2 (by decide)
 have h3 := hk 3 (by decide)
 have h4 := hk 4 (by decide)
 have h5 := hk 5 (by decide)
 have h6 := hk 6 (by decide)
 have h7 := hk 7 (by decide)
 simp [rdig]
 omega
theorem high_r {key : Nat → Int} (hk : Byts 32 key) : bits BinOp.and IntKind.u64 (dval (fun j => key (8 + j)) 8) 1152921487695413244 = dval (fun j => rdig key (8 + j)) 8 := by
 have hb := dval8_b (s := fun j => key (8 + j)) (fun i hi => hk (8 + i) (by omega))
 rw [and_highR hb.1 hb.2, dval8 (fun j => key (8 + j)), dval8 (fun j => rdig key (8 + j))]
 have h0 := hk 8 (by decide)
 have h1 := hk 9 (by decide)
 have h2 := hk 10 (by decide)
 have h3 := hk 11 (by decide)
 have h4 := hk 12 (by decide)
 have h5 := hk 13 (by decide)
 have h6 := hk 14 (by decide)
 have h7 := hk 15 (by decide)
 simp [rdig]
 omega
end Go.Proofs.YthghcjepdhkfdaaGreatDoor

/-
  Own text. What add of package poly does to a MAC: a contract over the translation.
-/
namespace Go.Proofs.YthghcjepdhkfdaaGreatDoor
open Go.RowKit Go.Proofs
set_option maxRecDepth 100000
theorem copy_mac {w : World} {b h m dC : Nat} {R S Z H : Nat → Int} {l : Int} (ty : TypeId) (t : ByteArray) (gm : MacAt w b R S Z H l) (hh : h < 16) (hm : m = min t.size (16 - h)) :
  (Builtin.copy_ #[81, 9] ty #[.slice (some ⟨b, 12 + h, none⟩) (16 - h) dC, .string t]).run Tryz.prog w = .ok (goInt m) (w.setCells b (12 + h) (nums .u8 m (txt t))) := by
 have hmin : Nat.min t.size (16 - h) = m := hm.symm
 have hst := run_storeCells_cells (P := Tryz.prog) b (12 + h) (nums .u8 m (txt t)) 0 w (by
   intro j hj
   rw [nums_len] at hj
   rw [Nat.add_zero, gm.at _ (by omega)]
   rfl) (fun j _ => gm.free _) nums_one
 simp [Builtin.copy_, run_underlying Tryz.underlying81, Builtin.lenOf, Builtin.firstCells, hmin]
 rw [take_nums t m (by omega), hst]
 rfl
theorem len16 : Tryz.prog.arrayLen 54 = 16 := by kernel_rfl
theorem sizeB16 (w : World) : (sizeOf (Tryz.prog.elem 54)).run Tryz.prog w = .ok 1 w := by kernel_rfl
theorem sl16m (b l : Nat) (w : World) (hl : l < 16) : (Instr.sliceAt 54 (.pointer (some ⟨b, 12, none⟩)) (some (.int .i64 (l : Int))) none none).run Tryz.prog w = .ok (.slice (some ⟨b, 12 + l, none⟩) (16 - l) (16 - l)) w := by
 rw [run_sliceAt_array_l (P := Tryz.prog) w 54 ⟨b, 12, none⟩ Tryz.underlying54 .i64 (l : Int) (by omega) (by rw [len16]; omega), sizeB16, len16]
 simp only [Result.andThen_ok, slicedAt, Int.toNat_natCast, Nat.mul_one]
 rw [if_neg (by omega), Addr.add_lit]
theorem sl16h (b l : Nat) (w : World) (hl : l ≤ 16) : (Instr.sliceAt 54 (.pointer (some ⟨b, 12, none⟩)) none (some (.int .i64 (l : Int))) none).run Tryz.prog w = .ok (.slice (some ⟨b, 12, none⟩) l 16) w := by
 rw [run_sliceAt_array_h (P := Tryz.prog) w 54 ⟨b, 12, none⟩ Tryz.underlying54 .i64 (l : Int) (by omega) (by rw [len16]; omega), len16]
 simp only [sizeB16, Result.andThen_ok, slicedAt]
 rw [if_neg (by omega), Addr.add_lit]
 rfl
theorem st_sum {ops : Array Oper} {rest : List Oper} {d : Option Tmp} {x y : Operand} {t : TypeId} {ps : String} {af : Array Edge} {a : Act} {w : World} {Q : Exit → Act → World → Prop} {b : Nat} {R S Z H z : Nat → Int} {l : Int}
  (gm : MacAt w b R S Z H l) (hx : a.eval x = .pointer (some ⟨b, 7, none⟩)) (hy : a.eval y = .agg (WA .u64 5 z)) (h : ∀ w2, MacAt w2 b R S z H l → Only b w w2 → wpList Tryz.prog ops Q rest (a.put d undef) w2) :
  wpList Tryz.prog ops Q ({ dst := d, op := .store 247 x y, type := t, pos := ps, after := af, guard := none } :: rest) a w := by
 obtain ⟨_, _, _, h3⟩ := isL
 have h2 := gm.setSum z
 exact wpList_store_mid rfl 247 x y rfl b 7 (WA .u64 5 z) hx hy (fun j hj => by rw [WA_size] at hj; exact ⟨by rw [gm.at (7 + j) (by omega)]; rfl, gm.free _⟩) (by rw [WA_size]; exact h3) (WA_one .u64 5 z) (h _ h2.1 h2.2)
set_option maxHeartbeats 8000000 in
set_option maxRecDepth 100000 in
theorem add_run (b : Nat) (key f : Nat → Int) (n : Nat) (s : ByteArray) (w : World) (hM : MacN w b key f n) :
  Calls Tryz.prog 222 #[.pointer (some ⟨b, 0, none⟩), .string s] w fun e w' => e = .returned (.tuple #[]) ∧ MacN w' b key (cat n f (txt s)) (n + s.size) ∧ Touch (fun x => x = b) w w' := by
 replace hM := hM.congr (f' := cat n f (txt s)) (fun i hi => by unfold cat; rw [if_pos hi])
 have hE : ∀ j, cat n f (txt s) (n + j) = txt s j := fun j => by unfold cat; rw [if_neg (by omega), Nat.add_sub_cancel_left]
 generalize cat n f (txt s) = g at *
 have HE := Hid.mk hE
 clear hE
 go_enter Tryz.func222, Tryz.ntmps222
 go_wp2_with fail
 go_loopg [1] s.size (fun gm pv v => ∃ k : Nat, Hid (gm + k = s.size) ∧ pv = .string (s.extract k s.size) ∧ MacN v b key g (n + k) ∧ Touch (fun x => x = b) w v)
 case atStart => exact ⟨0, Hid.mk rfl, by simp, hM, Touch.refl _ _⟩
 case round =>
  clear hM
  obtain ⟨k, HK, rfl, hM, ht⟩ := hrel
  have hks : k ≤ s.size := by have := HK.out; omega
  have hsz := extract_size s k
  obtain ⟨t, ht0⟩ : ∃ t, s.extract k s.size = t := ⟨_, rfl⟩
  have HT : Hid (∀ j, k + j < s.size → txt t j = g (n + k + j)) := Hid.mk (fun j hj => by rw [← ht0, txt_extract s k j hj, Nat.add_assoc, HE.out])
  rw [ht0] at hsz
  rw [ht0]
  by_cases hkl : k < s.size
  ·obtain ⟨R, S, Z, H, gm, hst⟩ := hM
   obtain ⟨h, hh⟩ : ∃ h, (n + k) % 16 = h := ⟨_, rfl⟩
   rw [hh] at gm
   have HST := Hid.mk hst
   clear hst
   have HH : Hid (h < 16) := Hid.mk (by omega)
   obtain ⟨m, hm⟩ : ∃ m, m = min t.size (16 - h) := ⟨_, rfl⟩
   have hpos : (0 : Int) < (t.size : Int) := by omega
   have hsl := fun v => sl16m b h v (by omega)
   have hcp2 := copy_mac (dC := 16 - h) 3 t gm.drew (by omega) hm
   have hch := gm.held
   have hset := gm.drew.setRest h m (txt t) (by omega)
   have HX : Hid (t.extract m t.size = s.extract (k + m) s.size) := Hid.mk (by
    have h1 : (t.extract m t.size).size = s.size - (k + m) := by rw [extract_size]; omega
    have h2 := extract_size s (k + m)
    rw [← mkS_txt (t.extract m t.size), ← mkS_txt (s.extract (k + m) s.size), h1, h2]
    refine mkS_congr (fun j hj => ?_)
    rw [txt_extract t m j (by omega), txt_extract s (k + m) j (by omega), ← ht0, txt_extract s k (m + j) (by omega), Nat.add_assoc])
   have HO : Hid (∀ j, j < h + m → over H h m (txt t) j = g (16 * ((n + k) / 16) + j)) := Hid.mk (fun j hj => by
    unfold over
    split
    ·rw [HT.out (j - h) (by omega)]
     congr 1
     omega
    ·exact HST.out.he j (by omega))
   have HB : Hid (Byts 16 (over H h m (txt t))) := Hid.mk (fun i hi => by
    unfold over
    split
    ·exact txt_b t _
    ·exact HST.out.hb i hi)
   have hmt : (m : Int) ≤ (t.size : Int) := by omega
   have hm1 : 1 ≤ m ∧ k + m ≤ s.size ∧ h + m ≤ 16 := by omega
   have hwr := i64_wrap (n := (h : Int) + (m : Int)) (by omega) (by omega)
   have HZ := Hid.mk hsz
   have HM := Hid.mk hm
   clear hsz hm HT ht0
   generalize gk = gz at *
   go_wp2_with fail
   go_region
   generalize over H h m (txt t) = H' at *
   generalize wr.drew.setCells b (12 + h) (nums .u8 m (txt t)) = v5 at *
   obtain ⟨gm5, o5⟩ := hset
   have ht5 : Touch (fun x => x = b) w v5 := (Touch.drew ht).trans o5.touch
   clear hcp2 hsl o5 gm hch ht
   have hch := gm5.held
   have hcf := gm5.free 28
   have gm6 := gm5.setHeld ((h : Int) + (m : Int))
   have ht6 : Touch (fun x => x = b) w (v5.setCell ⟨b, 28, none⟩ (.int .i64 ((h : Int) + (m : Int)))) := ht5.trans (only_set (g := b) (i := 28)).touch
   by_cases hfull : h + m = 16
   ·have hfi : (h : Int) + (m : Int) = 16 := by omega
    have hfd : ((h : Int) + (m : Int) == 16) = true := by simpa using hfi
    rw [hfi] at gm6 ht6
    go_wp2_with fail
    refine (behind_run b 16 16 R S Z H' 16 _ gm6 HST.out.zs HST.out.rd HB.out (Nat.le_refl _)).mono ?_
    rintro e v7 ⟨z, hz, ⟨q, hq⟩, rfl, hb⟩
    have gm7 := gm6.kept hb
    have ht7 := ht6.trans (Below.touch b hb)
    have HQ := Hid.mk (And.intro hz hq)
    clear hb gm6 ht6 gm5 ht5 hch hcf hz hq
    go_wp2_with (refine st_sum gm7 (by rfl) (by rfl) ?_; intro v8 gm8 o8; refine Hid.out ?_)
    have ht8 := ht7.trans o8.touch
    have hcf := gm8.free 28
    have hch := gm8.held
    have gm9 := gm8.setHeld 0
    have ht9 : Touch (fun x => x = b) w (v8.setCell ⟨b, 28, none⟩ (.int .i64 0)) := ht8.trans (only_set (g := b) (i := 28)).touch
    clear o8 gm7 ht7
    refine Hid.mk ?_
    go_wp2_with fail
    go_roundg (s.size - (k + m))
    case rel => exact ⟨k + m, Hid.mk (by omega), congrArg Value.string HX.out, ⟨R, S, z, H', by rw [show ((((n + (k + m)) % 16 : Nat)) : Int) = 0 by omega]; exact gm9, by rw [← Nat.add_assoc]; exact HST.out.full (by omega) HB.out (fun j hj => HO.out j (by omega)) HQ.out.1 HQ.out.2⟩, ht9⟩
    case measure => have := HK.out; omega
   ·have hfi : ¬ ((h : Int) + (m : Int) = 16) := by omega
    have hfd : ((h : Int) + (m : Int) == 16) = false := by simpa using hfi
    go_wp2_with fail
    go_roundg (s.size - (k + m))
    case rel => exact ⟨k + m, Hid.mk (by omega), congrArg Value.string HX.out, ⟨R, S, Z, H', by rw [show ((((n + (k + m)) % 16 : Nat)) : Int) = (h : Int) + (m : Int) by omega]; exact gm6, by rw [← Nat.add_assoc]; exact HST.out.part (by omega) HB.out (by rw [hh]; exact HO.out)⟩, ht6⟩
    case measure => have := HK.out; omega
  ·have hk2 : k = s.size := by omega
   subst hk2
   have hz0 : t.size = 0 := by omega
   go_wp2_with fail
   go_end0
   exact ⟨rfl, hM, ht⟩
end Go.Proofs.YthghcjepdhkfdaaGreatDoor

/-
  Own text. What New of package poly answers: a contract over the translation.
-/
namespace Go.Proofs.YthghcjepdhkfdaaGreatDoor
open Go.RowKit Go.Proofs
set_option maxRecDepth 100000
def knM (l : List (Option Value)) (K : Value → World → Prop) (i : Nat) (v : Value) (w : World) : Prop := match l.getD i none with
 | some u => v = u
 | none => K v w
theorem knM_keeps {l : List (Option Value)} {K : Value → World → Prop} (hK : ∀ v w w', K v w → Below w.heap.size w w' → K v w') : ∀ (i : Nat) v w w', knM l K i v w → Below w.heap.size w w' → knM l K i v w' := by
 intro i v w w' h hb
 unfold knM at *
 generalize l.getD i none = o at *
 cases o with
 | some u => exact h
 | none => exact hK v w w' h hb
def pk2 (a b : Int) : Nat → Int
 | 0 => a
 | 1 => b
 | _ => 0
def rL (key : Nat → Int) : Nat → Int := lofs (dval (rdig key) 8) (dval (fun j => rdig key (8 + j)) 8) 0
def sL (key : Nat → Int) : Nat → Int := pk2 (dval (fun j => key (16 + j)) 8) (dval (fun j => key (24 + j)) 8)
theorem sl32a (b : Nat) (w : World) : (Instr.sliceAt 22 (.pointer (some ⟨b, 0, none⟩)) none (some (.int .i64 8)) none).run Tryz.prog w = .ok (.slice (some ⟨b, 0, none⟩) 8 32) w := by simp [go_sem]
theorem sl32b (b : Nat) (w : World) : (Instr.sliceAt 22 (.pointer (some ⟨b, 0, none⟩)) (some (.int .i64 8)) (some (.int .i64 16)) none).run Tryz.prog w = .ok (.slice (some ⟨b, 8, none⟩) 8 24) w := by simp [go_sem]
theorem sl32c (b : Nat) (w : World) : (Instr.sliceAt 22 (.pointer (some ⟨b, 0, none⟩)) (some (.int .i64 16)) (some (.int .i64 24)) none).run Tryz.prog w = .ok (.slice (some ⟨b, 16, none⟩) 8 16) w := by simp [go_sem]
theorem sl32d (b : Nat) (w : World) : (Instr.sliceAt 22 (.pointer (some ⟨b, 0, none⟩)) (some (.int .i64 24)) none none).run Tryz.prog w = .ok (.slice (some ⟨b, 24, none⟩) 8 8) w := by simp [go_sem]
theorem exec_and64 {a : Act} {o : Oper} {w : World} {x y : Operand} (ho : o.op = .binOp .and 98 x y 98) {m n : Int} (hx : a.eval x = .int .u64 m) (hy : a.eval y = .int .u64 n) :
  (execOp a.eval o).run Tryz.prog w = .ok (.value (.int .u64 (bits .and .u64 m n))) w := exec_bin ho rfl hx hy (by simp [go_sem])
theorem run_build2 (x y : Int) (w : World) : (Instr.build 249 #[(0, .int .u64 x), (1, .int .u64 y)]).run Tryz.prog w = .ok (.agg #[.int .u64 x, .int .u64 y]) w := by kernel_rfl
theorem exec_build2 {a : Act} {o : Oper} {w : World} {x y : Operand} (ho : o.op = .build 249 #[(0, x), (1, y)]) {m n : Int} (hx : a.eval x = .int .u64 m) (hy : a.eval y = .int .u64 n) : (execOp a.eval o).run Tryz.prog w = .ok (.value (.agg (WA .u64 2 (pk2 m n)))) w := by
 have h := run_build2 m n w
 unfold execOp
 simp only [ho, List.map_toArray, List.map_cons, List.map_nil, hx, hy, Sem.run_bind, h, Result.andThen_ok, Sem.run_pure]
 rfl
theorem run_buildM (R S : Nat → Int) (w : World) : (Instr.build 251 #[(0, .agg (WA .u64 5 R)), (1, .agg (WA .u64 2 S))]).run Tryz.prog w = .ok (.agg (macC R S (fun _ => 0) (fun _ => 0) 0)) w := by kernel_rfl
theorem exec_buildM {a : Act} {o : Oper} {w : World} {x y : Operand} (ho : o.op = .build 251 #[(0, x), (1, y)]) {R S : Nat → Int} (hx : a.eval x = .agg (WA .u64 5 R)) (hy : a.eval y = .agg (WA .u64 2 S)) : (execOp a.eval o).run Tryz.prog w = .ok (.value (.agg (macC R S (fun _ => 0) (fun _ => 0) 0))) w := by
 have h := run_buildM R S w
 unfold execOp
 simp only [ho, List.map_toArray, List.map_cons, List.map_nil, hx, hy, Sem.run_bind, h, Result.andThen_ok, Sem.run_pure]
theorem act_boxM {o : Oper} {a : Act} {w : World} {K : Act → World → Prop} {Q : Exit → Act → World → Prop} {x : Operand} {cs : Array Value} (ho : o.op = .box 251 x) (hx : a.eval x = .agg cs)
  (h : ∀ w', w'.heap[w.heap.size]? = some (.cells cs 251 (0, 0)) → Below w.heap.size w w' → K (a.put o.dst (.pointer (some ⟨w.heap.size, 0, none⟩))) w') : o.wp Tryz.prog a w K Q := by
 unfold Oper.wp execOp
 simp only [ho, hx]
 simp [go_sem]
 exact h _ (heap_alloc_new w _) ((Below.refl _ _).alloc (Nat.le_refl _) _)
theorem st_new {key : Nat → Int} (hk : Byts 32 key) (f : Nat → Int) : St key f 0 (rL key) (sL key) (fun _ => 0) (fun _ => 0) := by
 have b0 := dval8_b (s := rdig key) (fun i hi => rdig_b hk i (by omega))
 have b8 := dval8_b (s := fun j => rdig key (8 + j)) (fun i hi => rdig_b hk (8 + i) (by omega))
 have h16 := dval8_b (s := fun j => key (16 + j)) (fun i hi => hk (16 + i) (by omega))
 have h24 := dval8_b (s := fun j => key (24 + j)) (fun i hi => hk (24 + i) (by omega))
 refine ⟨lofs_dg b0 b8 (by omega), ?_, h16, h24, ?_, ⟨fun _ _ => Int.le_refl _, fun _ _ _ => by show (0 : Int) < _; decide, by show (0 : Int) < _; decide⟩, ?_, fun _ _ => by show 0 ≤ (0 : Int) ∧ (0 : Int) < 256; omega, fun j hj => by omega⟩
 ·have h := dval_shift (rdig key) 8 8
  unfold rL
  rw [lofs_num]
  unfold rN
  rw [show (16 : Nat) = 8 + 8 from rfl, h]
  simp only [Int.reducePow]
  omega
 ·have h := dval_shift (fun i => key (16 + i)) 8 8
  unfold sN
  rw [show dval (fun i => key (16 + i)) 16 = dval (fun i => key (16 + i)) (8 + 8) from rfl, h]
  show dval (fun j => key (16 + j)) 8 + 18446744073709551616 * dval (fun j => key (24 + j)) 8 = _
  rw [dval_congr (s := fun j => key (16 + (8 + j))) (t := fun j => key (24 + j)) (fun j _ => by show key (16 + (8 + j)) = key (24 + j); congr 1; omega)]
  simp only [Int.reducePow]
 ·simp [qv, accN]
set_option maxHeartbeats 4000000 in
set_option maxRecDepth 100000 in
theorem New_run (key f : Nat → Int) (w : World) (hk : Byts 32 key) :
  Calls Tryz.prog 209 #[.agg (WA .u8 32 key)] w fun e w' => ∃ b, w.heap.size ≤ b ∧ e = .returned (.pointer (some ⟨b, 0, none⟩)) ∧ MacN w' b key f 0 ∧ Below w.heap.size w w' := by
 have g0 : ArrAt (w.alloc (.cells (WA .u8 32 key) 22)) w.heap.size .u8 22 32 key := heap_alloc_new w _
 have hB : Below w.heap.size w (w.alloc (.cells (WA .u8 32 key) 22)) := (Below.refl _ w).alloc (Nat.le_refl _) _
 have HL := Hid.mk (low_r hk)
 have HH := Hid.mk (high_r hk)
 have HK0 : Hid (Byts 8 key) := Hid.mk (fun i hi => hk i (by omega))
 have HK8 : Hid (Byts 8 (fun j => key (8 + j))) := Hid.mk (fun i hi => hk (8 + i) (by omega))
 have HK16 : Hid (Byts 8 (fun j => key (16 + j))) := Hid.mk (fun i hi => hk (16 + i) (by omega))
 have HK24 : Hid (Byts 8 (fun j => key (24 + j))) := Hid.mk (fun i hi => hk (24 + i) (by omega))
 have HR0 := Hid.mk (dval8_b (s := rdig key) (fun i hi => rdig_b hk i (by omega)))
 have HR8 := Hid.mk (dval8_b (s := fun j => rdig key (8 + j)) (fun i hi => rdig_b hk (8 + i) (by omega)))
 have HS := Hid.mk (st_new hk f)
 go_enter Tryz.func209, Tryz.ntmps209
 go_wp2_with fail
 refine wp_region_steps (fun v => ArrAt v w.heap.size .u8 22 32 key ∧ Below w.heap.size w v) (fun v v' => Below v.heap.size v v') (knM [some (.slice (some ⟨w.heap.size, 0, none⟩) 8 32), some (.int .u64 (dval (key) 8)), some (.int .u64 (dval (rdig key) 8)), some (.slice (some ⟨w.heap.size, 8, none⟩) 8 24), some (.int .u64 (dval (fun j => key (8 + j)) 8)), some (.int .u64 (dval (fun j => rdig key (8 + j)) 8)), some (.agg (WA .u64 5 (rL key))), some (.slice (some ⟨w.heap.size, 16, none⟩) 8 16), some (.int .u64 (dval (fun j => key (16 + j)) 8)), some (.slice (some ⟨w.heap.size, 24, none⟩) 8 8), some (.int .u64 (dval (fun j => key (24 + j)) 8)), some (.agg (WA .u64 2 (sL key))), some (.agg (macC (rL key) (sL key) (fun _ => 0) (fun _ => 0) 0)), none, none] (fun v u => ∃ b, w.heap.size ≤ b ∧ v = .pointer (some ⟨b, 0, none⟩) ∧ MacAt u b (rL key) (sL key) (fun _ => 0) (fun _ => 0) 0)) [3, 4, 5, 6, 7, 8, 9, 10, 11, 12, 13, 14, 15, 16, 2]
  [(1, .pointer (some ⟨w.heap.size, 0, none⟩))] [[], [0], [1], [], [3], [4], [2, 5], [], [7], [], [9], [8, 10], [6, 11], [12], [13]] rfl (by kernel_rfl) ⟨rfl, trivial⟩ ⟨g0.drew, Below.drew hB⟩ (fun v v' h hb => ⟨h.1.kept hb, h.2.trans (hb.mono h.2.size)⟩) (knM_keeps (fun v u u' ⟨b, h1, h2, h3⟩ hb => ⟨b, h1, h2, h3.kept hb⟩))
  ⟨
   (fun Q a1 ww hS fr kn => ⟨trivial, fun K hK => wp_value (exec_slH rfl fr.1 rfl (sl32a _ _)) (hK _ _ rfl (Below.refl _ _))⟩),
   (fun Q a1 ww hS fr kn => ⟨trivial, fun K hK => stepc enterWord rfl (args1 kn.1) (pword_run w.heap.size 0 32 (key) ww HK0.out (fun j hj => by rw [Nat.zero_add]; exact hS.1.cell j (by omega))) (fun w' hb => hK _ _ rfl hb)⟩),
   (fun Q a1 ww hS fr kn => ⟨trivial, fun K hK => wp_value (exec_and64 rfl kn.1 rfl) (hK _ _ (congrArg (Value.int .u64) HL.out) (Below.refl _ _))⟩),
   (fun Q a1 ww hS fr kn => ⟨trivial, fun K hK => wp_value (exec_slLH rfl fr.1 rfl rfl (sl32b _ _)) (hK _ _ rfl (Below.refl _ _))⟩),
   (fun Q a1 ww hS fr kn => ⟨trivial, fun K hK => stepc enterWord rfl (args1 kn.1) (pword_run w.heap.size 8 24 (fun j => key (8 + j)) ww HK8.out (fun j hj => hS.1.cell (8 + j) (by omega))) (fun w' hb => hK _ _ rfl hb)⟩),
   (fun Q a1 ww hS fr kn => ⟨trivial, fun K hK => wp_value (exec_and64 rfl kn.1 rfl) (hK _ _ (congrArg (Value.int .u64) HH.out) (Below.refl _ _))⟩),
   (fun Q a1 ww hS fr kn => ⟨trivial, fun K hK => stepc enterLimbs rfl (args3 kn.1 kn.2.1 rfl) (limbsOf_run _ _ 0 ww HR0.out HR8.out (by omega)) (fun w' hb => hK _ _ rfl hb)⟩),
   (fun Q a1 ww hS fr kn => ⟨trivial, fun K hK => wp_value (exec_slLH rfl fr.1 rfl rfl (sl32c _ _)) (hK _ _ rfl (Below.refl _ _))⟩),
   (fun Q a1 ww hS fr kn => ⟨trivial, fun K hK => stepc enterWord rfl (args1 kn.1) (pword_run w.heap.size 16 16 (fun j => key (16 + j)) ww HK16.out (fun j hj => hS.1.cell (16 + j) (by omega))) (fun w' hb => hK _ _ rfl hb)⟩),
   (fun Q a1 ww hS fr kn => ⟨trivial, fun K hK => wp_value (exec_slL rfl fr.1 rfl (sl32d _ _)) (hK _ _ rfl (Below.refl _ _))⟩),
   (fun Q a1 ww hS fr kn => ⟨trivial, fun K hK => stepc enterWord rfl (args1 kn.1) (pword_run w.heap.size 24 8 (fun j => key (24 + j)) ww HK24.out (fun j hj => hS.1.cell (24 + j) (by omega))) (fun w' hb => hK _ _ rfl hb)⟩),
   (fun Q a1 ww hS fr kn => ⟨trivial, fun K hK => wp_value (exec_build2 rfl kn.1 kn.2.1) (hK _ _ rfl (Below.refl _ _))⟩),
   (fun Q a1 ww hS fr kn => ⟨trivial, fun K hK => wp_value (exec_buildM rfl kn.1 kn.2.1) (hK _ _ rfl (Below.refl _ _))⟩),
   (fun Q a1 ww hS fr kn => ⟨trivial, fun K hK => act_boxM rfl kn.1 (fun w' hg hb => hK _ _ ⟨_, hS.2.size, rfl, hg⟩ hb)⟩),
   (fun Q a1 ww hS fr kn => ⟨trivial, fun K hK => wp_value (exec_assign rfl rfl) (hK _ _ kn.1 (Below.refl _ _))⟩),
   trivial⟩ ?_
 intro vs v1 hS1 hk1
 obtain ⟨b, h1, h2, h3⟩ := hk1 14 (by decide)
 change vs 2 = _ at h2
 simp only [putAll, Act.put, List.setIfInBounds_toArray, List.set_cons_zero, List.set_cons_succ, h2]
 clear hk1 h2
 go_wp2_with fail
 go_ret
 exact ⟨b, h1, rfl, ⟨_, _, _, _, h3, HS.out⟩, hS1.2⟩
end Go.Proofs.YthghcjepdhkfdaaGreatDoor

/-
  Own text. What Write of package poly does to a MAC: a contract over the translation.
-/
namespace Go.Proofs.YthghcjepdhkfdaaGreatDoor
open Go.RowKit Go.Proofs
set_option maxRecDepth 100000
set_option maxHeartbeats 4000000 in
theorem Write_run (b : Nat) (key f : Nat → Int) (n0 : Nat) (v : Value) (cnt : Nat) (ts : Nat → ByteArray) (w : World) (hM : MacN w b key f n0) (hv : ∀ w', Touch (fun x => x = b) w w' → Strs w' v cnt ts) (hn : cnt < 4611686018427387904) :
  Calls Tryz.prog 210 #[.pointer (some ⟨b, 0, none⟩), v] w fun e w' => e = .returned (.tuple #[]) ∧ MacN w' b key (cat n0 f (txt (joinB ts cnt))) (n0 + (joinB ts cnt).size) ∧ Touch (fun x => x = b) w w' := by
 obtain ⟨a, c, rfl, hp⟩ := hv w (Touch.refl _ _)
 have HV := Hid.mk hv
 clear hv hp
 go_enter Tryz.func210, Tryz.ntmps210
 go_wp2_with fail
 go_loopg [10] cnt (fun gm iv v => ∃ i : Nat, Hid (gm + i = cnt) ∧ iv = .int .i64 (i : Int) ∧ MacN v b key (cat n0 f (txt (joinB ts i))) (n0 + (joinB ts i).size) ∧ Touch (fun x => x = b) w v)
 case atStart => exact ⟨0, Hid.mk rfl, rfl, hM.congr (fun i hi => by unfold cat; rw [if_pos hi]), Touch.refl _ _⟩
 case round =>
  clear hM
  obtain ⟨i, HI, rfl, hM, ht⟩ := hrel
  have hin : i ≤ cnt := by have := HI.out; omega
  by_cases hil : i < cnt
  ·obtain ⟨a', c', e, hp⟩ := HV.out wr ht
   simp only [Value.slice.injEq] at e
   obtain ⟨rfl, _, rfl⟩ := e
   obtain ⟨p, rfl, hc⟩ := hp (by omega)
   have hc1 := hc i hil
   clear hc hp
   go_wp2_with fail
   refine (add_run b key _ _ (ts i) wr hM).mono ?_
   rintro e v1 ⟨rfl, hM1, ht1⟩
   rw [cat_join, Nat.add_assoc, ← ByteArray.size_append] at hM1
   go_wp2_with fail
   go_roundg (cnt - (i + 1))
   case rel => exact ⟨i + 1, Hid.mk (by omega), by go_num, hM1, ht.trans ht1⟩
   case measure => have := HI.out; omega
  ·have hi2 : i = cnt := by omega
   subst hi2
   go_wp2_with fail
   go_end0
   exact ⟨rfl, hM, ht⟩
end Go.Proofs.YthghcjepdhkfdaaGreatDoor

/-
  Own text. What Sum of package poly answers: a contract over the translation.
-/
namespace Go.Proofs.YthghcjepdhkfdaaGreatDoor
open Go.RowKit Go.Proofs
set_option maxRecDepth 100000
set_option maxHeartbeats 8000000 in
set_option maxRecDepth 100000 in
theorem Sum_run (b : Nat) (key f : Nat → Int) (n : Nat) (w : World) (hM : MacN w b key f n) :
  Calls Tryz.prog 211 #[.pointer (some ⟨b, 0, none⟩)] w fun e w' => e = .returned (.agg (WA .u8 16 (digN (markN key f n)))) ∧ Below w.heap.size w w' := by
 obtain ⟨R, S, Z, H, gm, hst⟩ := hM
 have hlt := gm.lt
 obtain ⟨h, hh⟩ : ∃ h, n % 16 = h := ⟨_, rfl⟩
 rw [hh] at gm
 have HM : Hid (∀ v, Below w.heap.size w v → MacAt v b R S Z H (h : Int)) := Hid.mk (fun v hv => gm.below hv hlt)
 have HST := Hid.mk hst
 have HH : Hid (h ≤ 16) := Hid.mk (by omega)
 have gma := gm.alloc (.cells (WA .u8 16 fun _ => 0) 54)
 have hsum := gma.sum
 have g0 : ArrAt ((w.alloc (.cells (WA .u8 16 fun _ => 0) 54)).alloc (.cells (WA .u64 5 fun _ => 0) 247)) w.heap.size .u8 54 16 (fun _ => 0) := heap_alloc2_old w _ _
 have gz : ArrAt ((w.alloc (.cells (WA .u8 16 fun _ => 0) 54)).alloc (.cells (WA .u64 5 fun _ => 0) 247)) (w.heap.size + 1) .u64 247 5 (fun _ => 0) := heap_alloc2_new w _ _
 have hB : Below w.heap.size w ((w.alloc (.cells (WA .u8 16 fun _ => 0) 54)).alloc (.cells (WA .u64 5 fun _ => 0) 247)) := ((Below.refl _ w).alloc (by simp) _).alloc (by simp) _
 clear hst gm
 go_enter Tryz.func211, Tryz.ntmps211
 go_wp2_with (first | (refine wl_value rfl (exec_ldmid rfl isL (by rfl) hsum) ?_) | (refine st_arr isL gz (by rfl) (by rfl) ?_; intro v1 g3 o1; refine Hid.out ?_))
 replace g0 := g0.only o1 (by omega)
 replace hB := hB.trans (o1.below (by omega))
 clear o1 gz hsum gma
 have hch := (HM.out _ hB).held
 by_cases hp : 0 < h
 ·have hpi : (0 : Int) < (h : Int) := by omega
  refine Hid.mk ?_
  go_wp2_with fail
  refine wp_gen (fun v => ArrAt v w.heap.size .u8 54 16 (fun _ => 0) ∧ ArrAt v (w.heap.size + 1) .u64 247 5 Z ∧ Below w.heap.size w v) ⟨g0, g3, hB⟩ ?_
  clear g0 g3 hB hch
  rintro v2 ⟨g0, g3, hB⟩
  refine wp_region3 (Below w.heap.size w) v2.heap.size
    [((w.heap.size + 1), ⟨isOb (WA .u64 5 Z) 247, [(10, fun ob => ∃ z, Sm z ∧ (∃ q, (qv Z 5 + (dval H h + 256 ^ h)) * qv R 5 = qv z 5 + P130 * q) ∧ ob = .cells (WA .u64 5 z) 247 (0, 0))]⟩), (w.heap.size, fixd (WA .u8 16 (fun _ => 0)) 54)]
    [kv (.pointer (some ⟨b, 0, none⟩)), kv (.pointer (some ⟨b, 0, none⟩)), kv (.pointer (some ⟨b, 0, none⟩)), kv (.pointer (some ⟨b, 12, none⟩)), kv (.pointer (some ⟨b, 0, none⟩)), kv (.pointer (some ⟨b, 0, none⟩)), kv (.pointer (some ⟨b, 28, none⟩)), kv (.int .i64 (h : Int)), kv (.slice (some ⟨b, 12, none⟩) h 16), .val fun v => ∃ z, Sm z ∧ (∃ q, (qv Z 5 + (dval H h + 256 ^ h)) * qv R 5 = qv z 5 + P130 * q) ∧ v = .agg (WA .u64 5 z), .val fun _ => True]
    [.none, .none, .none, .none, .none, .none, .none, .none, .none, .none, .base 0 1]
    [some 16, some 17, some 18, some 19, some 20, some 21, some 22, some 23, some 24, some 25, none]
    [(0, .pointer (some ⟨b, 0, none⟩)), (3, .pointer (some ⟨(w.heap.size + 1), 0, none⟩))]
    [[], [], [.slot 1], [.slot 2], [], [.slot 4], [.slot 5], [.slot 6], [.slot 3, .slot 7], [.slot 0, .slot 8], [.base 0 0, .slot 9]]
    [.base 0 1, .base 1 0] [16, 17, 18, 19, 20, 21, 22, 23, 24, 25]
    rfl (by kernel_rfl) ⟨rfl, rfl, trivial⟩ (Below.drew hB) (Nat.le_refl _) ⟨⟨g3.lt, obIn g3⟩, ⟨g0.lt, obIn g0⟩, trivial⟩ ⟨⟨(show ((w.heap.size + 1) : Nat) ≠ w.heap.size from by omega), trivial⟩, trivial, trivial⟩ (below_G hB.size ⟨by omega, by omega, trivial⟩)
    ⟨
     (fun Q aq ww own hS hBg fr kn => .inl ⟨trivial, fun K hK => wp_value (exec_move rfl fr.1) (hK _ _ ⟨Touch.refl _ _, rfl⟩)⟩),
     (fun Q aq ww own hS hBg fr kn => .inl ⟨trivial, fun K hK => wp_value (exec_move rfl fr.1) (hK _ _ ⟨Touch.refl _ _, rfl⟩)⟩),
     (fun Q aq ww own hS hBg fr kn => .inl ⟨trivial, fun K hK => wp_value (exec_nilc rfl kn.1) (hK _ _ ⟨Touch.refl _ _, rfl⟩)⟩),
     (fun Q aq ww own hS hBg fr kn => .inl ⟨trivial, fun K hK => wp_value (exec_fm (k := 3) rfl kn.1 (by decide)) (hK _ _ ⟨Touch.refl _ _, rfl⟩)⟩),
     (fun Q aq ww own hS hBg fr kn => .inl ⟨trivial, fun K hK => wp_value (exec_move rfl fr.1) (hK _ _ ⟨Touch.refl _ _, rfl⟩)⟩),
     (fun Q aq ww own hS hBg fr kn => .inl ⟨trivial, fun K hK => wp_value (exec_nilc rfl kn.1) (hK _ _ ⟨Touch.refl _ _, rfl⟩)⟩),
     (fun Q aq ww own hS hBg fr kn => .inl ⟨trivial, fun K hK => wp_value (exec_fm (k := 4) rfl kn.1 (by decide)) (hK _ _ ⟨Touch.refl _ _, rfl⟩)⟩),
     (fun Q aq ww own hS hBg fr kn => .inl ⟨trivial, fun K hK => wp_value (exec_ld rfl kn.1 (load_int (HM.out ww hS).held)) (hK _ _ ⟨Touch.refl _ _, rfl⟩)⟩),
     (fun Q aq ww own hS hBg fr kn => .inl ⟨trivial, fun K hK => wp_value (exec_slH rfl kn.1 kn.2.1 (sl16h b h _ HH.out)) (hK _ _ ⟨Touch.refl _ _, rfl⟩)⟩),
     (fun Q aq ww own hS hBg fr kn => .inl ⟨trivial, fun K hK => stepp enterBehind rfl (args2 kn.1 kn.2.1) ((behind_run b h 16 R S Z H (h : Int) ww (HM.out ww hS) HST.out.zs HST.out.rd HST.out.hb HH.out).mono (fun e w' ⟨z, h1, h2, h3, h4⟩ => ⟨_, h3, ⟨z, h1, h2, rfl⟩, h4⟩)) (R := fun v w' => (∃ z, Sm z ∧ (∃ q, (qv Z 5 + (dval H h + 256 ^ h)) * qv R 5 = qv z 5 + P130 * q) ∧ v = .agg (WA .u64 5 z)) ∧ Below ww.heap.size ww w') (fun v w' ⟨h1, h2⟩ => hK _ _ ⟨touch_below h2, h1⟩)⟩),
     (fun Q aq ww own hS hBg fr kn => .inl ⟨trivial, fun K hK => (by obtain ⟨z, h1, h2, h3⟩ := kn.2.1; exact act_arr rfl isL fr.2.1 h3 (obAt kn.1) (fun w2 hg ho => hK _ _ ⟨⟨touch_only ho, ⟨_, hg, z, h1, h2, rfl⟩⟩, trivial⟩))⟩),
     trivial⟩ ?_
  intro vs own v3 hB3 hs3 kn inj
  clear inj hs3 g0 g3 hB
  obtain ⟨ob, hob, z, h1, ⟨q, hq⟩, rfl⟩ := kn.1
  have g3 : ArrAt v3 (w.heap.size + 1) .u64 247 5 z := hob
  have g0 : ArrAt v3 w.heap.size .u8 54 16 (fun _ => 0) := obAt kn.2.1
  clear kn
  have hB := hB3
  have HZ := Hid.mk h1
  have HQ : Hid ((qv z 5 % P130 + (S 0 + 18446744073709551616 * S 1)) % 340282366920938463463374607431768211456 = markN key f n) := Hid.mk (HST.out.left (by omega) (q := q) (by rw [hh]; exact hq))
  clear h1 hq hB3
  simp only [putAll, Act.put, List.setIfInBounds_toArray, List.set_cons_zero, List.set_cons_succ]
  go_wp2_with fail
  refine wp_region3 (Below w.heap.size w) v3.heap.size
   [((w.heap.size + 1), fixd (WA .u64 5 z) 247), (w.heap.size, once (WA .u8 16 (fun _ => 0)) 54 6 (WA .u8 16 (digN ((qv z 5 % P130 + (S 0 + 18446744073709551616 * S 1)) % 340282366920938463463374607431768211456))))]
   [kv (.agg (WA .u64 5 z)), kv (.pointer (some ⟨b, 0, none⟩)), kv (.pointer (some ⟨b, 0, none⟩)), kv (.pointer (some ⟨b, 5, none⟩)), kv (.agg (WA .u64 2 S)), kv (.agg (WA .u8 16 (digN ((qv z 5 % P130 + (S 0 + 18446744073709551616 * S 1)) % 340282366920938463463374607431768211456)))), .val fun _ => True]
   [.none, .none, .none, .none, .none, .none, .base 1 1]
   [some 26, some 27, some 28, some 29, some 30, some 31, none]
   [(0, .pointer (some ⟨b, 0, none⟩)), (3, .pointer (some ⟨(w.heap.size + 1), 0, none⟩)), (2, .pointer (some ⟨w.heap.size, 0, none⟩))]
   [[.base 0 0], [], [.slot 1], [.slot 2], [.slot 3], [.slot 0, .slot 4], [.base 1 0, .slot 5]]
   [.base 1 1] [26, 27, 28, 29, 30, 31]
   rfl (by kernel_rfl) ⟨rfl, rfl, rfl, trivial⟩ (Below.drew hB) (Nat.le_refl _) ⟨⟨g3.lt, obIn g3⟩, ⟨g0.lt, obIn g0⟩, trivial⟩ ⟨⟨(show ((w.heap.size + 1) : Nat) ≠ w.heap.size from by omega), trivial⟩, trivial, trivial⟩ (below_G hB.size ⟨by omega, by omega, trivial⟩)
   ⟨
    (fun Q aq ww own hS hBg fr kn => .inl ⟨trivial, fun K hK => wp_value (look_arr rfl isL (obAt kn.1) fr.2.1) (hK _ _ ⟨Touch.refl _ _, rfl⟩)⟩),
    (fun Q aq ww own hS hBg fr kn => .inl ⟨trivial, fun K hK => wp_value (exec_move rfl fr.1) (hK _ _ ⟨Touch.refl _ _, rfl⟩)⟩),
    (fun Q aq ww own hS hBg fr kn => .inl ⟨trivial, fun K hK => wp_value (exec_nilc rfl kn.1) (hK _ _ ⟨Touch.refl _ _, rfl⟩)⟩),
    (fun Q aq ww own hS hBg fr kn => .inl ⟨trivial, fun K hK => wp_value (exec_fm (k := 1) rfl kn.1 (by decide)) (hK _ _ ⟨Touch.refl _ _, rfl⟩)⟩),
    (fun Q aq ww own hS hBg fr kn => .inl ⟨trivial, fun K hK => wp_value (exec_ldmid rfl isS2 kn.1 (HM.out ww hS).s) (hK _ _ ⟨Touch.refl _ _, rfl⟩)⟩),
    (fun Q aq ww own hS hBg fr kn => .inl ⟨trivial, fun K hK => stepc enterMark rfl (args2 kn.1 kn.2.1) (pmark_run z S ww HZ.out HST.out.s0 HST.out.s1) (fun w' hb => hK _ _ ⟨touch_below hb, rfl⟩)⟩),
    (fun Q aq ww own hS hBg fr kn => .inl ⟨trivial, fun K hK => act_arr rfl isArr16 fr.2.2.1 kn.2.1 (obAt kn.1) (fun w2 hg ho => hK _ _ ⟨⟨touch_only ho, obIn hg⟩, trivial⟩)⟩),
    trivial⟩ ?_
  intro vs own v9 hB9 hs9 kn inj
  clear inj hs9 g0 g3 hB
  have g0 : ArrAt v9 w.heap.size .u8 54 16 (digN ((qv z 5 % P130 + (S 0 + 18446744073709551616 * S 1)) % 340282366920938463463374607431768211456)) := obAt kn.1
  clear kn
  simp only [putAll, Act.put, List.setIfInBounds_toArray, List.set_cons_zero, List.set_cons_succ]
  rw [HQ.out] at g0
  go_wp2_with fail
  exact bodyPost_ret (res_arr Tryz.results211 isArr16 g0 (by rfl)) rfl ⟨rfl, hB9⟩
 ·have hpi : ¬ ((0 : Int) < (h : Int)) := by omega
  have hpd : decide ((0 : Int) < (h : Int)) = false := decide_eq_false hpi
  have HZ := Hid.mk HST.out.zs
  have HQ := Hid.mk (HST.out.none (by omega))
  refine Hid.mk ?_
  go_wp2_with fail
  refine wp_gen (fun v => ArrAt v w.heap.size .u8 54 16 (fun _ => 0) ∧ ArrAt v (w.heap.size + 1) .u64 247 5 Z ∧ Below w.heap.size w v) ⟨g0, g3, hB⟩ ?_
  clear g0 g3 hB hch
  rintro v3 ⟨g0, g3, hB⟩
  refine wp_region3 (Below w.heap.size w) v3.heap.size
   [((w.heap.size + 1), fixd (WA .u64 5 Z) 247), (w.heap.size, once (WA .u8 16 (fun _ => 0)) 54 6 (WA .u8 16 (digN ((qv Z 5 % P130 + (S 0 + 18446744073709551616 * S 1)) % 340282366920938463463374607431768211456))))]
   [kv (.agg (WA .u64 5 Z)), kv (.pointer (some ⟨b, 0, none⟩)), kv (.pointer (some ⟨b, 0, none⟩)), kv (.pointer (some ⟨b, 5, none⟩)), kv (.agg (WA .u64 2 S)), kv (.agg (WA .u8 16 (digN ((qv Z 5 % P130 + (S 0 + 18446744073709551616 * S 1)) % 340282366920938463463374607431768211456)))), .val fun _ => True]
   [.none, .none, .none, .none, .none, .none, .base 1 1]
   [some 26, some 27, some 28, some 29, some 30, some 31, none]
   [(0, .pointer (some ⟨b, 0, none⟩)), (3, .pointer (some ⟨(w.heap.size + 1), 0, none⟩)), (2, .pointer (some ⟨w.heap.size, 0, none⟩))]
   [[.base 0 0], [], [.slot 1], [.slot 2], [.slot 3], [.slot 0, .slot 4], [.base 1 0, .slot 5]]
   [.base 1 1] [26, 27, 28, 29, 30, 31]
   rfl (by kernel_rfl) ⟨rfl, rfl, rfl, trivial⟩ (Below.drew hB) (Nat.le_refl _) ⟨⟨g3.lt, obIn g3⟩, ⟨g0.lt, obIn g0⟩, trivial⟩ ⟨⟨(show ((w.heap.size + 1) : Nat) ≠ w.heap.size from by omega), trivial⟩, trivial, trivial⟩ (below_G hB.size ⟨by omega, by omega, trivial⟩)
   ⟨
    (fun Q aq ww own hS hBg fr kn => .inl ⟨trivial, fun K hK => wp_value (look_arr rfl isL (obAt kn.1) fr.2.1) (hK _ _ ⟨Touch.refl _ _, rfl⟩)⟩),
    (fun Q aq ww own hS hBg fr kn => .inl ⟨trivial, fun K hK => wp_value (exec_move rfl fr.1) (hK _ _ ⟨Touch.refl _ _, rfl⟩)⟩),
    (fun Q aq ww own hS hBg fr kn => .inl ⟨trivial, fun K hK => wp_value (exec_nilc rfl kn.1) (hK _ _ ⟨Touch.refl _ _, rfl⟩)⟩),
    (fun Q aq ww own hS hBg fr kn => .inl ⟨trivial, fun K hK => wp_value (exec_fm (k := 1) rfl kn.1 (by decide)) (hK _ _ ⟨Touch.refl _ _, rfl⟩)⟩),
    (fun Q aq ww own hS hBg fr kn => .inl ⟨trivial, fun K hK => wp_value (exec_ldmid rfl isS2 kn.1 (HM.out ww hS).s) (hK _ _ ⟨Touch.refl _ _, rfl⟩)⟩),
    (fun Q aq ww own hS hBg fr kn => .inl ⟨trivial, fun K hK => stepc enterMark rfl (args2 kn.1 kn.2.1) (pmark_run Z S ww HZ.out HST.out.s0 HST.out.s1) (fun w' hb => hK _ _ ⟨touch_below hb, rfl⟩)⟩),
    (fun Q aq ww own hS hBg fr kn => .inl ⟨trivial, fun K hK => act_arr rfl isArr16 fr.2.2.1 kn.2.1 (obAt kn.1) (fun w2 hg ho => hK _ _ ⟨⟨touch_only ho, obIn hg⟩, trivial⟩)⟩),
    trivial⟩ ?_
  intro vs own v9 hB9 hs9 kn inj
  clear inj hs9 g0 g3 hB
  have g0 : ArrAt v9 w.heap.size .u8 54 16 (digN ((qv Z 5 % P130 + (S 0 + 18446744073709551616 * S 1)) % 340282366920938463463374607431768211456)) := obAt kn.1
  clear kn
  simp only [putAll, Act.put, List.setIfInBounds_toArray, List.set_cons_zero, List.set_cons_succ]
  rw [HQ.out] at g0
  go_wp2_with fail
  exact bodyPost_ret (res_arr Tryz.results211 isArr16 g0 (by rfl)) rfl ⟨rfl, hB9⟩
end Go.Proofs.YthghcjepdhkfdaaGreatDoor

/-
  Own text. What Tag of package poly answers; a slice of texts that is made anew; the statements' awake.
-/
namespace Go.Proofs.YthghcjepdhkfdaaGreatDoor
open Go.RowKit Go.Proofs
set_option maxRecDepth 100000
set_option maxHeartbeats 4000000 in
theorem Tag_run (key : Nat → Int) (v : Value) (cnt : Nat) (ts : Nat → ByteArray) (w : World) (hk : Byts 32 key) (hv : Strs w v cnt ts) (hn : cnt < 4611686018427387904) :
  Calls Tryz.prog 188 #[.agg (WA .u8 32 key), v] w fun e w' => e = .returned (.agg (WA .u8 16 (digN (markN key (txt (joinB ts cnt)) (joinB ts cnt).size)))) ∧ Below w.heap.size w w' := by
 have g0 : ArrAt ((w.alloc (.cells (WA .u8 32 key) 22)).alloc (.cells (WA .u8 16 fun _ => 0) 54)) w.heap.size .u8 22 32 key := heap_alloc2_old w _ _
 have g1 : ArrAt ((w.alloc (.cells (WA .u8 32 key) 22)).alloc (.cells (WA .u8 16 fun _ => 0) 54)) (w.heap.size + 1) .u8 54 16 (fun _ => 0) := heap_alloc2_new w _ _
 have hB : Below w.heap.size w ((w.alloc (.cells (WA .u8 32 key) 22)).alloc (.cells (WA .u8 16 fun _ => 0) 54)) := ((Below.refl _ w).alloc (by simp) _).alloc (by simp) _
 go_enter Tryz.func188, Tryz.ntmps188
 go_wp2_with (refine ld_arr isArr32 g0 (by rfl) ?_)
 refine (New_run key (fun _ => 0) _ hk).mono ?_
 rintro e v1 ⟨b, hb, rfl, hM, hb1⟩
 have hz1 := g1.lt
 replace g1 := g1.kept hb1
 replace hB := hB.trans (hb1.mono hB.size)
 have hzb : w.heap.size + 1 + 1 ≤ b := by simpa using hb
 have hv1 : ∀ w', Touch (fun x => x = b) v1 w' → Strs w' v cnt ts := fun w' ht => hv.kept (fun k hk => (ht.block k (by have := hB.size; omega) (by omega)).trans (hB.block k hk))
 clear hb1 g0 hb hz1
 go_wp2_with fail
 refine (Write_run b key (fun _ => 0) 0 v cnt ts v1 hM hv1 hn).mono ?_
 rintro e v2 ⟨rfl, hM2, ht2⟩
 rw [cat0, Nat.zero_add] at hM2
 replace g1 := g1.touch ht2 (by omega)
 replace hB := belowT hB ht2 (by omega) (Nat.le_refl _)
 clear ht2 hM hv1
 go_wp2_with fail
 refine (Sum_run b key _ _ v2 hM2).mono ?_
 rintro e v3 ⟨rfl, hb3⟩
 replace g1 := g1.kept hb3
 replace hB := hB.trans (hb3.mono hB.size)
 clear hb3 hM2
 go_wp2_with (refine st_arr isArr16 g1 (by rfl) (by rfl) ?_; intro v4 g4 o4; refine Hid.out ?_)
 refine Hid.mk ?_
 go_wp2_with fail
 exact bodyPost_ret (res_arr Tryz.results188 isArr16 g4 (by rfl)) rfl ⟨rfl, hB.trans (o4.below (by omega))⟩
-- awake
end Go.Proofs.YthghcjepdhkfdaaGreatDoor

/-
  Own text. The document's answer for aead: eight bytes of a number.
-/
namespace Go.Proofs.YthghcjepdhkfdaaGreatDoor
open Go.RowKit Go.Proofs
set_option maxRecDepth 100000
theorem isArr8 : IsArr 177 8 := ⟨_, _, Tryz.underlying177, by kernel_rfl⟩
end Go.Proofs.YthghcjepdhkfdaaGreatDoor

/-
  Own text. The document's answer for aead: a text, and zeros up to a multiple of 16.
-/
namespace Go.Proofs.YthghcjepdhkfdaaGreatDoor
open Go.RowKit Go.Proofs
set_option maxRecDepth 100000
def padZ (s : ByteArray) : ByteArray := s ++ mkS ((16 - s.size % 16) % 16) (fun _ => 0)
end Go.Proofs.YthghcjepdhkfdaaGreatDoor

/-
  Own text. What bits.RotateLeft32 and the quarter round of package chacha give; the fixed answer (awake).
-/
namespace Go.Proofs.YthghcjepdhkfdaaGreatDoor
open Go.RowKit Go.Proofs
set_option maxRecDepth 100000
theorem rot_run (x : Int) (n : Nat) (w : World) (hx : W32 x) (hn : n = 7 ∨ n = 8 ∨ n = 12 ∨ n = 16) :
  Calls Tryz.prog 226 #[.int .u32 x, .int .i64 n] w fun e w' => e = .returned (.int .u32 (rotw x n)) ∧ w' = w := by
 have key : ∀ p q : Int, p = ((2 ^ n : Nat) : Int) → q = ((2 ^ (32 - n) : Nat) : Int) → bits .or .u32 (x * p % 4294967296) (x / q) = rotw x n := fun p q => or_rotw x n hx p q
 unfold W32 at hx
 go_enter Tryz.func226, Tryz.ntmps226
 rcases hn with rfl | rfl | rfl | rfl
 ·have e1 : bits .and .u64 7 31 = 7 := by decide
  have e2 := key 128 33554432 (by decide) (by decide)
  go_wp2
  go_ret
  exact ⟨rfl, rfl⟩
 ·have e1 : bits .and .u64 8 31 = 8 := by decide
  have e2 := key 256 16777216 (by decide) (by decide)
  go_wp2
  go_ret
  exact ⟨rfl, rfl⟩
 ·have e1 : bits .and .u64 12 31 = 12 := by decide
  have e2 := key 4096 1048576 (by decide) (by decide)
  go_wp2
  go_ret
  exact ⟨rfl, rfl⟩
 ·have e1 : bits .and .u64 16 31 = 16 := by decide
  have e2 := key 65536 65536 (by decide) (by decide)
  go_wp2
  go_ret
  exact ⟨rfl, rfl⟩
theorem quarter_run (a b c d : Int) (w : World) (_ha : W32 a) (hb : W32 b) (_hc : W32 c) (hd : W32 d) :
  Calls Tryz.prog 216 #[.int .u32 a, .int .u32 b, .int .u32 c, .int .u32 d] w fun e w' =>
   e = .returned (.tuple #[.int .u32 (quart ⟨a, b, c, d⟩).a, .int .u32 (quart ⟨a, b, c, d⟩).b, .int .u32 (quart ⟨a, b, c, d⟩).c, .int .u32 (quart ⟨a, b, c, d⟩).d]) ∧ w' = w := by
 unfold quart half
 dsimp only
 obtain ⟨a1, h1⟩ : ∃ y, addw a b = y := ⟨_, rfl⟩
 rw [h1]
 have ha1 := h1 ▸ addw_w a b
 obtain ⟨x1, g1⟩ : ∃ y, xorw d a1 = y := ⟨_, rfl⟩
 rw [g1]
 have hx1 := g1 ▸ xorw_w hd ha1
 rw [← xor_u32 hd ha1] at g1
 obtain ⟨d1, k1⟩ : ∃ y, rotw x1 16 = y := ⟨_, rfl⟩
 rw [k1]
 have hd1 := k1 ▸ rotw_w 16 hx1
 obtain ⟨c1, h2⟩ : ∃ y, addw c d1 = y := ⟨_, rfl⟩
 rw [h2]
 have hc1 := h2 ▸ addw_w c d1
 obtain ⟨x2, g2⟩ : ∃ y, xorw b c1 = y := ⟨_, rfl⟩
 rw [g2]
 have hx2 := g2 ▸ xorw_w hb hc1
 rw [← xor_u32 hb hc1] at g2
 obtain ⟨b1, k2⟩ : ∃ y, rotw x2 12 = y := ⟨_, rfl⟩
 rw [k2]
 have hb1 := k2 ▸ rotw_w 12 hx2
 obtain ⟨a2, h3⟩ : ∃ y, addw a1 b1 = y := ⟨_, rfl⟩
 rw [h3]
 have ha2 := h3 ▸ addw_w a1 b1
 obtain ⟨x3, g3⟩ : ∃ y, xorw d1 a2 = y := ⟨_, rfl⟩
 rw [g3]
 have hx3 := g3 ▸ xorw_w hd1 ha2
 rw [← xor_u32 hd1 ha2] at g3
 obtain ⟨d2, k3⟩ : ∃ y, rotw x3 8 = y := ⟨_, rfl⟩
 rw [k3]
 have hd2 := k3 ▸ rotw_w 8 hx3
 obtain ⟨c2, h4⟩ : ∃ y, addw c1 d2 = y := ⟨_, rfl⟩
 rw [h4]
 have hc2 := h4 ▸ addw_w c1 d2
 obtain ⟨x4, g4⟩ : ∃ y, xorw b1 c2 = y := ⟨_, rfl⟩
 rw [g4]
 have hx4 := g4 ▸ xorw_w hb1 hc2
 rw [← xor_u32 hb1 hc2] at g4
 obtain ⟨b2, k4⟩ : ∃ y, rotw x4 7 = y := ⟨_, rfl⟩
 rw [k4]
 unfold addw at h1 h2 h3 h4
 have r1 : Calls Tryz.prog 226 #[.int .u32 x1, .int .i64 16] w fun e w' => e = .returned (.int .u32 (rotw x1 16)) ∧ w' = w := rot_run x1 16 w hx1 (by decide)
 have r2 : Calls Tryz.prog 226 #[.int .u32 x2, .int .i64 12] w fun e w' => e = .returned (.int .u32 (rotw x2 12)) ∧ w' = w := rot_run x2 12 w hx2 (by decide)
 have r3 : Calls Tryz.prog 226 #[.int .u32 x3, .int .i64 8] w fun e w' => e = .returned (.int .u32 (rotw x3 8)) ∧ w' = w := rot_run x3 8 w hx3 (by decide)
 have r4 : Calls Tryz.prog 226 #[.int .u32 x4, .int .i64 7] w fun e w' => e = .returned (.int .u32 (rotw x4 7)) ∧ w' = w := rot_run x4 7 w hx4 (by decide)
 rw [k1] at r1; rw [k2] at r2; rw [k3] at r3; rw [k4] at r4
 clear k1 k2 k3 k4
 unfold W32 at *
 go_enter Tryz.func216, Tryz.ntmps216
 go_wp2_with fail
 refine r1.mono ?_
 rintro e w1 ⟨rfl, rfl⟩
 go_wp2_with fail
 refine r2.mono ?_
 rintro e w2 ⟨rfl, rfl⟩
 go_wp2_with fail
 refine r3.mono ?_
 rintro e w3 ⟨rfl, rfl⟩
 go_wp2_with fail
 refine r4.mono ?_
 rintro e w4 ⟨rfl, rfl⟩
 go_wp2_with fail
 exact bodyPost_ret (v := .tuple #[.int .u32 a2, .int .u32 b2, .int .u32 c2, .int .u32 d2]) (by simp [results, Tryz.results216, go_sem]) rfl ⟨rfl, rfl⟩
end Go.Proofs.YthghcjepdhkfdaaGreatDoor

/-
  Own text. What goes into a quarter round comes again, line by line backwards: the walk of the law ChachaTurnsBack.
-/
namespace Go.Proofs.YthghcjepdhkfdaaGreatDoor
open Go.RowKit Go.Proofs
set_option maxRecDepth 100000
end Go.Proofs.YthghcjepdhkfdaaGreatDoor

/-
  Own text. Rows of numbers in memory (the first n cells of a block), and steps over them for regions that leave their order open.
-/
namespace Go.Proofs.YthghcjepdhkfdaaGreatDoor
open Go.RowKit Go.Proofs
set_option maxRecDepth 100000
end Go.Proofs.YthghcjepdhkfdaaGreatDoor

/-
  Own text. What turn of the document's answer gives.
-/
namespace Go.Proofs.YthghcjepdhkfdaaGreatDoor
open Go.RowKit Go.Proofs
set_option maxRecDepth 100000
end Go.Proofs.YthghcjepdhkfdaaGreatDoor

/-
  Own text. What the quarter round of the document's answer does: the words at four places of a row, behind a quarter round of them.
-/
namespace Go.Proofs.YthghcjepdhkfdaaGreatDoor
open Go.RowKit Go.Proofs
set_option maxRecDepth 100000
theorem qrow_w {n : Nat} {s : Nat → Int} {a b c d : Nat} (h : ∀ i, i < n → W32 (s i)) (ha : a < n) (hb : b < n) (hc : c < n) (hd : d < n) : ∀ i, i < n → W32 (qrow s a b c d i) := by
 have hq : (quart ⟨s a, s b, s c, s d⟩).ok := quart_ok ⟨h a ha, h b hb, h c hc, h d hd⟩
 exact w32_upd (w32_upd (w32_upd (w32_upd h hq.a) hq.b) hq.c) hq.d
end Go.Proofs.YthghcjepdhkfdaaGreatDoor

/-
  Own text. The walk of the law ChachaQuarters.
-/
namespace Go.Proofs.YthghcjepdhkfdaaGreatDoor
open Go.RowKit Go.Proofs
set_option maxRecDepth 100000
end Go.Proofs.YthghcjepdhkfdaaGreatDoor

/-
  Own text. Words of bytes: what wordAt and putWord of package chacha give.
-/
namespace Go.Proofs.YthghcjepdhkfdaaGreatDoor
open Go.RowKit Go.Proofs
set_option maxRecDepth 100000
def wrd (s : Nat → Int) (i : Nat) : Int := s (4 * i) + 256 * s (4 * i + 1) + 65536 * s (4 * i + 2) + 16777216 * s (4 * i + 3)
theorem wrd_w {n : Nat} {s : Nat → Int} {i : Nat} (h : Byts n s) (hi : 4 * i + 4 ≤ n) : W32 (wrd s i) := by
 have h0 := h (4 * i) (by omega)
 have h1 := h (4 * i + 1) (by omega)
 have h2 := h (4 * i + 2) (by omega)
 have h3 := h (4 * i + 3) (by omega)
 unfold wrd W32
 omega
theorem or4 (x0 x1 x2 x3 : Int) (h0 : 0 ≤ x0 ∧ x0 < 256) (h1 : 0 ≤ x1 ∧ x1 < 256) (h2 : 0 ≤ x2 ∧ x2 < 256) (h3 : 0 ≤ x3 ∧ x3 < 256) :
  bits .or .u32 (bits .or .u32 (bits .or .u32 x0 (x1 * 256)) (x2 * 65536)) (x3 * 16777216) = x0 + 256 * x1 + 65536 * x2 + 16777216 * x3 := by
 rw [or_add x0 x1 8 256 rfl (by omega) (by omega) (by omega) (by omega) (by omega), or_add _ x2 16 65536 rfl (by omega) (by omega) (by omega) (by omega) (by omega), or_add _ x3 24 16777216 rfl (by omega) (by omega) (by omega) (by omega) (by omega)]
 omega
set_option maxHeartbeats 1000000 in
theorem wordAt_run {t : TypeId} (b n cp : Nat) (s : Nat → Int) (i : Nat) (w : World) (hR : RowAt w b .u8 t n s) (hs : Byts n s) (hi : 4 * i + 4 ≤ n) (hn : n ≤ cp) (hc : cp ≤ 1000000) :
  Calls Tryz.prog 200 #[.slice (some ⟨b, 0, none⟩) n cp, .int .i64 (i : Int)] w fun e w' => e = .returned (.int .u32 (wrd s i)) ∧ Below w.heap.size w w' := by
 have c0 := hR.cell (4 * i) (by omega)
 have c1 := hR.cell (4 * i + 1) (by omega)
 have c2 := hR.cell (4 * i + 2) (by omega)
 have c3 := hR.cell (4 * i + 3) (by omega)
 have h0 := hs (4 * i) (by omega)
 have h1 := hs (4 * i + 1) (by omega)
 have h2 := hs (4 * i + 2) (by omega)
 have h3 := hs (4 * i + 3) (by omega)
 have HO := Hid.mk (or4 _ _ _ _ h0 h1 h2 h3)
 go_enter Tryz.func200, Tryz.ntmps200
 go_wp2
 go_region
 go_wp2
 go_ret
 exact ⟨congrArg (fun n => Ending.returned (Value.int .u32 n)) HO.out, (Below.refl _ _).drew⟩
def putw (s : Nat → Int) (i : Nat) (v : Int) : Nat → Int := upd (upd (upd (upd s (4 * i) (v % 256)) (4 * i + 1) (v / 256 % 256)) (4 * i + 2) (v / 65536 % 256)) (4 * i + 3) (v / 16777216 % 256)
theorem putw_byts {n : Nat} {s : Nat → Int} {i : Nat} {v : Int} (h : Byts n s) : Byts n (putw s i v) := fun j hj => by
 have := h j hj
 unfold putw upd
 split
 ·omega
 split
 ·omega
 split
 ·omega
 split <;> omega
set_option maxHeartbeats 1000000 in
theorem putWord_walk (b n cp : Nat) (i : Nat) (v : Int) (v0 v1 v2 v3 : Value) (w : World) (c0 : w.cell? ⟨b, 4 * i, none⟩ = some v0) (c1 : w.cell? ⟨b, 4 * i + 1, none⟩ = some v1) (c2 : w.cell? ⟨b, 4 * i + 2, none⟩ = some v2) (c3 : w.cell? ⟨b, 4 * i + 3, none⟩ = some v3)
  (f0 : w.frozen? ⟨b, 4 * i, none⟩ = false) (f1 : w.frozen? ⟨b, 4 * i + 1, none⟩ = false) (f2 : w.frozen? ⟨b, 4 * i + 2, none⟩ = false) (f3 : w.frozen? ⟨b, 4 * i + 3, none⟩ = false) (hv : W32 v) (hi : 4 * i + 4 ≤ n) (hn : n ≤ cp) (hc : cp ≤ 1000000) :
  Calls Tryz.prog 202 #[.slice (some ⟨b, 0, none⟩) n cp, .int .i64 (i : Int), .int .u32 v] w fun e w' => e = .returned (.tuple #[]) ∧
   w' = (((w.setCell ⟨b, 4 * i, none⟩ (.int .u8 (v % 256))).setCell ⟨b, 4 * i + 1, none⟩ (.int .u8 (v / 256 % 256))).setCell ⟨b, 4 * i + 2, none⟩ (.int .u8 (v / 65536 % 256))).setCell ⟨b, 4 * i + 3, none⟩ (.int .u8 (v / 16777216 % 256)) := by
 have HE : Hid (v / 16777216 % 256 = v / 16777216) := Hid.mk (by unfold W32 at hv; omega)
 unfold W32 at hv
 go_enter Tryz.func202, Tryz.ntmps202
 go_wp2
 refine bodyPost_end (results_none rfl _ _ _) rfl ?_
 rw [HE.out]
 exact ⟨rfl, rfl⟩
end Go.Proofs.YthghcjepdhkfdaaGreatDoor

/-
  Own text. Arrays of numbers in memory; what keySquare of package chacha gives.
-/
namespace Go.Proofs.YthghcjepdhkfdaaGreatDoor
open Go.RowKit Go.Proofs
set_option maxRecDepth 100000
theorem putWord_arr {t : TypeId} (b n : Nat) (s : Nat → Int) (i : Nat) (v : Int) (w : World) (hR : ArrAt w b .u8 t n s) (hv : W32 v) (hi : 4 * i + 4 ≤ n) (hc : n ≤ 1000000) :
  Calls Tryz.prog 202 #[.slice (some ⟨b, 0, none⟩) n n, .int .i64 (i : Int), .int .u32 v] w fun e w' => e = .returned (.tuple #[]) ∧ ArrAt w' b .u8 t n (putw s i v) ∧ Only b w w' := by
 refine (putWord_walk b n n i v _ _ _ _ w (hR.cell _ (by omega)) (hR.cell _ (by omega)) (hR.cell _ (by omega)) (hR.cell _ (by omega)) (hR.free _) (hR.free _) (hR.free _) (hR.free _) hv hi (Nat.le_refl _) hc).mono ?_
 rintro e w' ⟨rfl, rfl⟩
 exact ⟨rfl, (((hR.set _ _ (by omega)).set _ _ (by omega)).set _ _ (by omega)).set _ _ (by omega), only_set.trans (only_set.trans (only_set.trans only_set))⟩
theorem isArr12 : IsArr 26 12 := ⟨_, _, Tryz.underlying26, by kernel_rfl⟩
theorem isArr64 : IsArr 183 64 := ⟨_, _, Tryz.underlying183, by kernel_rfl⟩
theorem isSq : IsArr 207 16 := ⟨_, _, Tryz.underlying207, by kernel_rfl⟩
end Go.Proofs.YthghcjepdhkfdaaGreatDoor

/-
  Own text. What word and bytes of the document's answer give.
-/
namespace Go.Proofs.YthghcjepdhkfdaaGreatDoor
open Go.RowKit Go.Proofs
set_option maxRecDepth 100000
def b4 (v : Int) (i : Nat) : Int := if i = 0 then v % 256 else if i = 1 then v / 256 % 256 else if i = 2 then v / 65536 % 256 else v / 16777216 % 256
end Go.Proofs.YthghcjepdhkfdaaGreatDoor

/-
  Own text. What keySquare and streamSquare of package chacha give.
-/
namespace Go.Proofs.YthghcjepdhkfdaaGreatDoor
open Go.RowKit Go.Proofs
set_option maxRecDepth 100000
def lets (i : Nat) : Int := [101, 120, 112, 97, 110, 100, 32, 51, 50, 45, 98, 121, 116, 101, 32, 107].getD i 0
theorem lets_byts : Byts 16 lets := by unfold Byts lets; decide
def ksq (key : Nat → Int) (n : Nat) (i : Nat) : Int := if i < n then (if i < 4 then wrd lets i else wrd key (i - 4)) else 0
theorem ksq_low (key : Nat → Int) (k : Nat) (hk : k < 4) : upd (ksq key k) k (wrd lets k) = ksq key (k + 1) := by
 funext i
 unfold upd ksq
 by_cases e : i = k
 ·subst e; simp [hk]
 ·rw [if_neg e]
  by_cases h : i < k
  ·simp [h, show i < k + 1 by omega]
  ·simp [h, show ¬ i < k + 1 by omega]
theorem ksq_high (key : Nat → Int) (k : Nat) : upd (ksq key (4 + k)) (4 + k) (wrd key k) = ksq key (4 + (k + 1)) := by
 funext i
 unfold upd ksq
 by_cases e : i = 4 + k
 ·subst e; rw [if_pos rfl, if_pos (by omega), if_neg (by omega)]; congr 1; omega
 ·rw [if_neg e]
  by_cases h : i < 4 + k
  ·simp [h, show i < 4 + (k + 1) by omega]
  ·simp [h, show ¬ i < 4 + (k + 1) by omega]
theorem lets_WA : #[Value.int .u8 101, .int .u8 120, .int .u8 112, .int .u8 97, .int .u8 110, .int .u8 100, .int .u8 32, .int .u8 51, .int .u8 50, .int .u8 45, .int .u8 98, .int .u8 121, .int .u8 116, .int .u8 101, .int .u8 32, .int .u8 107] = WA .u8 16 lets := rfl
theorem conv_lets (w : World) : (convert 81 81 (.slice (some ⟨w.heap.size, 0, none⟩) 16 16)).run Tryz.prog (w.alloc (.cells (WA .u8 16 lets) 5)) = .ok (.slice (some ⟨w.heap.size, 0, none⟩) 16 16) (w.alloc (.cells (WA .u8 16 lets) 5 (16, 17))) := by
 have h := Lib.run_convert_bytes_const (P := Tryz.prog) w 81 5 (WA .u8 16 lets) 16 16 Tryz.underlying81 Tryz.underlying5
 rw [WA_size] at h
 exact h
set_option maxHeartbeats 2000000 in
theorem keySquare_run (key : Nat → Int) (w : World) (hk : Byts 32 key) :
  Calls Tryz.prog 199 #[.agg (WA .u8 32 key)] w fun e w' => e = .returned (.agg (WA .u32 16 (ksq key 12))) ∧ Below w.heap.size w w' := by
 have HW := lets_WA
 go_enter Tryz.func199, Tryz.ntmps199
 go_wp2
 go_loopg [6] 4 (fun m i v => ∃ k : Nat, Hid (m + k = 4) ∧ i = .int .i64 k ∧ ArrAt v w.heap.size .u8 22 32 key ∧ ArrAt v (w.heap.size + 1) .u32 207 16 (fun _ => 0) ∧ ArrAt v (w.heap.size + 1 + 1) .u32 207 16 (ksq key k) ∧ Below w.heap.size w v)
 case atStart => exact ⟨0, Hid.mk rfl, rfl, heap_a31 w _ _ _, heap_a32 w _ _ _, ArrAt.congr (s := fun _ => 0) (heap_a3 w _ _ _) (fun _ _ => rfl), (((Below.refl _ w).alloc (by simp) _).alloc (by simp) _).alloc (by simp; omega) _⟩
 case round =>
  obtain ⟨k, HK, rfl, g0, g1, g2, hB⟩ := hrel
  have hk4 : k ≤ 4 := by have := HK.out; omega
  by_cases hlt : k < 4
  ·have hcv := conv_lets wr
   go_wp2_with fail
   refine (wordAt_run wr.heap.size 16 16 lets k _ (RowAt.marked (heap_alloc_new wr _) (Nat.le_refl _)) lets_byts (by omega) (by omega) (by omega)).mono ?_
   rintro e v1 ⟨rfl, hb⟩
   clear hcv
   have hb2 : Below wr.heap.size wr v1 := Below.trans ((Below.refl _ wr).alloc (Nat.le_refl _) _) (hb.mono (by simp))
   replace g0 := g0.kept hb2
   replace g1 := g1.kept hb2
   replace g2 := g2.kept hb2
   replace hB := hB.trans (hb2.mono hB.size)
   clear hb hb2
   have c2 := g2.cell k (by omega)
   have f2 := g2.free k
   go_wp2_with fail
   go_roundg (4 - (k + 1))
   case rel => exact ⟨k + 1, Hid.mk (by omega), by go_num, g0.other _ (by omega), g1.other _ (by omega), by rw [← ksq_low key k hlt]; exact g2.set k _ (by omega), Below.setCell hB (by simp; omega) _⟩
   case measure => have := HK.out; omega
  ·have hk2 : k = 4 := by omega
   subst hk2
   clear hlt hk4 HK HW
   go_wp2
   go_loopg [16] 8 (fun m i v => ∃ k : Nat, Hid (m + k = 8) ∧ i = .int .i64 k ∧ ArrAt v w.heap.size .u8 22 32 key ∧ ArrAt v (w.heap.size + 1) .u32 207 16 (fun _ => 0) ∧ ArrAt v (w.heap.size + 1 + 1) .u32 207 16 (ksq key (4 + k)) ∧ Below w.heap.size w v)
   case atStart => exact ⟨0, Hid.mk rfl, rfl, g0, g1, g2, hB⟩
   case round =>
    clear g0 g1 g2 hB
    obtain ⟨k, HK, rfl, g0, g1, g2, hB⟩ := hrel
    have hk8 : k ≤ 8 := by have := HK.out; omega
    by_cases hlt : k < 8
    ·go_wp2_with fail
     refine (wordAt_run w.heap.size 32 32 key k _ g0.row hk (by omega) (by omega) (by omega)).mono ?_
     rintro e v1 ⟨rfl, hb⟩
     replace g0 := g0.kept hb
     replace g1 := g1.kept hb
     replace g2 := g2.kept hb
     replace hB := hB.trans (hb.mono hB.size)
     clear hb
     have c2 := g2.cell (4 + k) (by omega)
     have f2 := g2.free (4 + k)
     go_wp2_with fail
     go_roundg (8 - (k + 1))
     case rel => exact ⟨k + 1, Hid.mk (by omega), by go_num, g0.other _ (by omega), g1.other _ (by omega), by rw [← ksq_high key k]; exact g2.set (4 + k) _ (by omega), Below.setCell hB (by simp; omega) _⟩
     case measure => have := HK.out; omega
    ·have hk2 : k = 8 := by omega
     subst hk2
     clear hlt hk8 HK
     go_wp2_with (first | (refine ld_arr isSq g2 (by rfl) ?_) | (refine st_arr isSq g1 (by rfl) (by rfl) ?_; intro v2 g3 o3))
     exact bodyPost_ret (v := .agg (WA .u32 16 (ksq key 12))) (res_arr rfl isSq g3 rfl) rfl ⟨rfl, hB.trans (o3.below (by omega))⟩
end Go.Proofs.YthghcjepdhkfdaaGreatDoor

/-
  Own text. Rows that grow by append; what square of the document's answer gives.
-/
namespace Go.Proofs.YthghcjepdhkfdaaGreatDoor
open Go.RowKit Go.Proofs
set_option maxRecDepth 100000
end Go.Proofs.YthghcjepdhkfdaaGreatDoor

/-
  Own text. What streamSquare, ahead and rounds of package chacha give.
-/
namespace Go.Proofs.YthghcjepdhkfdaaGreatDoor
open Go.RowKit Go.Proofs
set_option maxRecDepth 100000
def ssq (key : Nat → Int) (c : Int) (nonce : Nat → Int) (k : Nat) (i : Nat) : Int := if i = 12 then c else if 12 < i ∧ i < 13 + k then wrd nonce (i - 13) else ksq key 12 i
theorem ssq_0 (key : Nat → Int) (c : Int) (nonce : Nat → Int) : upd (ksq key 12) 12 c = ssq key c nonce 0 := by
 funext i
 unfold upd ssq
 by_cases e : i = 12
 ·simp [e]
 ·rw [if_neg e, if_neg e, if_neg (by omega)]
theorem ssq_step (key : Nat → Int) (c : Int) (nonce : Nat → Int) (k : Nat) : upd (ssq key c nonce k) (13 + k) (wrd nonce k) = ssq key c nonce (k + 1) := by
 funext i
 unfold upd ssq
 by_cases e : i = 13 + k
 ·subst e; rw [if_pos rfl, if_neg (by omega), if_pos (by omega)]; congr 1; omega
 ·rw [if_neg e]
  by_cases h : i = 12
  ·simp [h]
  ·rw [if_neg h, if_neg h]
   by_cases h' : 12 < i ∧ i < 13 + k
   ·rw [if_pos h', if_pos (by omega)]
   ·rw [if_neg h', if_neg (by omega)]
set_option maxHeartbeats 2000000 in
theorem streamSquare_run (key nonce : Nat → Int) (c : Int) (w : World) (hk : Byts 32 key) (hn : Byts 12 nonce) :
  Calls Tryz.prog 181 #[.agg (WA .u8 32 key), .int .u32 c, .agg (WA .u8 12 nonce)] w fun e w' => e = .returned (.agg (WA .u32 16 (ssq key c nonce 3))) ∧ Below w.heap.size w w' := by
 have g0 : ArrAt (((w.alloc (.cells (WA .u8 32 key) 22)).alloc (.cells (WA .u8 12 nonce) 26)).alloc (.cells (WA .u32 16 fun _ => 0) 207)) w.heap.size .u8 22 32 key := heap_a31 w _ _ _
 have g1 : ArrAt (((w.alloc (.cells (WA .u8 32 key) 22)).alloc (.cells (WA .u8 12 nonce) 26)).alloc (.cells (WA .u32 16 fun _ => 0) 207)) (w.heap.size + 1) .u8 26 12 nonce := heap_a32 w _ _ _
 have g2 : ArrAt (((w.alloc (.cells (WA .u8 32 key) 22)).alloc (.cells (WA .u8 12 nonce) 26)).alloc (.cells (WA .u32 16 fun _ => 0) 207)) (w.heap.size + 1 + 1) .u32 207 16 (fun _ => 0) := heap_a3 w _ _ _
 have hB : Below w.heap.size w (((w.alloc (.cells (WA .u8 32 key) 22)).alloc (.cells (WA .u8 12 nonce) 26)).alloc (.cells (WA .u32 16 fun _ => 0) 207)) := (((Below.refl _ w).alloc (by simp) _).alloc (by simp) _).alloc (by simp; omega) _
 go_enter Tryz.func181, Tryz.ntmps181
 go_wp2_with (first | (refine ld_arr isArr32 g0 (by rfl) ?_))
 refine (keySquare_run key _ hk).mono ?_
 rintro e v1 ⟨rfl, hb⟩
 replace g0 := g0.kept hb
 replace g1 := g1.kept hb
 replace g2 := g2.kept hb
 replace hB := hB.trans (hb.mono hB.size)
 clear hb
 go_wp2_with (first | (refine st_arr (s' := fun _ => 0) (k' := .u32) isSq (heap_alloc_new v1 _) (by rfl) (by rfl) ?_; intro v2 g3 o3; refine Hid.out ?_))
 have hs1 := g2.lt
 replace g1 := (g1.alloc _).only o3 (Nat.ne_of_lt g1.lt)
 replace g2 := (g2.alloc _).only o3 (Nat.ne_of_lt g2.lt)
 replace hB := (hB.alloc hB.size _).trans (o3.below hB.size)
 clear o3 g0
 generalize v1.heap.size = B3 at *
 have c3 := g3.cell 12 (by omega)
 have f3 := g3.free 12
 refine Hid.mk ?_
 go_wp2_with fail
 replace g1 := g1.other (g := B3) (i := 12) (.int .u32 c) (by omega)
 replace g2 := g2.other (g := B3) (i := 12) (.int .u32 c) (by omega)
 replace g3 := g3.set 12 c (by omega)
 rw [ssq_0 key c nonce] at g3
 replace hB := Below.setCell hB (p := ⟨B3, 12, none⟩) (by simp; omega) (.int .u32 c)
 clear c3 f3
 go_loopg [13] 3 (fun m i v => ∃ k : Nat, Hid (m + k = 3) ∧ i = .int .i64 k ∧ ArrAt v (w.heap.size + 1) .u8 26 12 nonce ∧ ArrAt v (w.heap.size + 1 + 1) .u32 207 16 (fun _ => 0) ∧ ArrAt v B3 .u32 207 16 (ssq key c nonce k) ∧ Below w.heap.size w v)
 case atStart => exact ⟨0, Hid.mk rfl, rfl, g1, g2, g3, hB⟩
 case round =>
  clear g1 g2 g3 hB
  obtain ⟨k, HK, rfl, g1, g2, g3, hB⟩ := hrel
  have hk3 : k ≤ 3 := by have := HK.out; omega
  by_cases hlt : k < 3
  ·go_wp2_with fail
   refine (wordAt_run (w.heap.size + 1) 12 12 nonce k _ g1.row hn (by omega) (by omega) (by omega)).mono ?_
   rintro e v3 ⟨rfl, hb⟩
   replace g1 := g1.kept hb
   replace g2 := g2.kept hb
   replace g3 := g3.kept hb
   replace hB := hB.trans (hb.mono hB.size)
   clear hb
   have c3 := g3.cell (13 + k) (by omega)
   have f3 := g3.free (13 + k)
   go_wp2_with fail
   go_roundg (3 - (k + 1))
   case rel => exact ⟨k + 1, Hid.mk (by omega), by go_num, g1.other _ (by omega), g2.other _ (by omega), by rw [← ssq_step key c nonce k]; exact g3.set (13 + k) _ (by omega), Below.setCell hB (by simp; omega) _⟩
   case measure => have := HK.out; omega
  ·have hk2 : k = 3 := by omega
   subst hk2
   clear hlt hk3 HK
   go_wp2_with (first | (refine ld_arr isSq g3 (by rfl) ?_) | (refine st_arr isSq g2 (by rfl) (by rfl) ?_; intro v4 g4 o4))
   exact bodyPost_ret (v := .agg (WA .u32 16 (ssq key c nonce 3))) (res_arr rfl isSq g4 rfl) rfl ⟨rfl, hB.trans (o4.below (by omega))⟩
set_option maxHeartbeats 1000000 in
theorem ahead_run (s : Nat → Int) (n : Int) (w : World) :
  Calls Tryz.prog 183 #[.agg (WA .u32 16 s), .int .u32 n] w fun e w' => e = .returned (.agg (WA .u32 16 (upd s 12 (addw (s 12) n)))) ∧ Below w.heap.size w w' := by
 unfold addw
 have e0 := WA_get .u32 16 s 12 (by omega)
 have e1 := WA_set .u32 16 s 12 ((s 12 + n) % 4294967296) (by omega)
 go_enter Tryz.func183, Tryz.ntmps183
 go_wp2_with (first | (refine ld_arr isSq (heap_alloc2_old w _ _) (by rfl) ?_) | (refine st_arr (s' := fun _ => 0) (k' := .u32) isSq (heap_alloc2_new w _ _) (by rfl) (by rfl) ?_; intro v4 g4 o4))
 exact bodyPost_ret (v := .agg (WA .u32 16 (upd s 12 ((s 12 + n) % 4294967296)))) (res_arr rfl isSq g4 rfl) rfl ⟨rfl, (((Below.refl _ w).alloc (by simp) _).alloc (by simp) _).trans (o4.below (by omega))⟩
end Go.Proofs.YthghcjepdhkfdaaGreatDoor

/-
  Own text. What rounds of package chacha gives: ten times the eight quarter rounds.
-/
namespace Go.Proofs.YthghcjepdhkfdaaGreatDoor
open Go.RowKit Go.Proofs
set_option maxRecDepth 100000
def dbl (s : Nat → Int) : Nat → Int :=
 qrow (qrow (qrow (qrow (qrow (qrow (qrow (qrow s 0 4 8 12) 1 5 9 13) 2 6 10 14) 3 7 11 15) 0 5 10 15) 1 6 11 12) 2 7 8 13) 3 4 9 14
def rnds (s : Nat → Int) : Nat → Nat → Int
 | 0 => s
 | k + 1 => dbl (rnds s k)
theorem dbl_w {s : Nat → Int} (h : ∀ i, i < 16 → W32 (s i)) : ∀ i, i < 16 → W32 (dbl s i) :=
 qrow_w (qrow_w (qrow_w (qrow_w (qrow_w (qrow_w (qrow_w (qrow_w h (by decide) (by decide) (by decide) (by decide)) (by decide) (by decide) (by decide) (by decide)) (by decide) (by decide) (by decide) (by decide)) (by decide) (by decide) (by decide) (by decide)) (by decide) (by decide) (by decide) (by decide)) (by decide) (by decide) (by decide) (by decide)) (by decide) (by decide) (by decide) (by decide)) (by decide) (by decide) (by decide) (by decide)
theorem rnds_w {s : Nat → Int} (h : ∀ i, i < 16 → W32 (s i)) : ∀ k i, i < 16 → W32 (rnds s k i)
 | 0 => h
 | k + 1 => dbl_w (rnds_w h k)
set_option maxHeartbeats 8000000 in
set_option maxRecDepth 100000 in
theorem rounds_run (s : Nat → Int) (w : World) (hs : ∀ i, i < 16 → W32 (s i)) :
  Calls Tryz.prog 201 #[.agg (WA .u32 16 s)] w fun e w' => e = .returned (.agg (WA .u32 16 (rnds s 10))) ∧ Below w.heap.size w w' := by
 go_enter Tryz.func201, Tryz.ntmps201
 go_wp2_with fail
 go_loopg [3] 10 (fun m i v => ∃ k : Nat, Hid (m + k = 10) ∧ i = .int .i64 k ∧ ArrAt v w.heap.size .u32 207 16 (rnds s k) ∧ ArrAt v (w.heap.size + 1) .u32 207 16 (fun _ => 0) ∧ Below w.heap.size w v)
 case atStart => exact ⟨0, Hid.mk rfl, rfl, heap_alloc2_old w _ _, heap_alloc2_new w _ _, ((Below.refl _ w).alloc (by simp) _).alloc (by simp) _⟩
 case round =>
  obtain ⟨k, HK, rfl, g, g1, hB⟩ := hrel
  have hk10 : k ≤ 10 := by have := HK.out; omega
  by_cases hlt : k < 10
  ·have HN : Hid (dbl (rnds s k) = rnds s (k + 1)) := Hid.mk rfl
   have W0 := rnds_w hs k
   generalize rnds s k = s0 at *
   unfold dbl at HN
   go_wp2_with (first | (refine ld_cell g (by rfl) (by decide) ?_))
   refine (quarter_run (s0 0) (s0 4) (s0 8) (s0 12) _ (W0 0 (by decide)) (W0 4 (by decide)) (W0 8 (by decide)) (W0 12 (by decide))).mono ?_
   rintro e vq ⟨rfl, rfl⟩
   go_wp2_with (first | (refine st_cell (i := 12) g (by rfl) (by rfl) (by decide) ?_; clear g; intro v2 g o2; replace g1 := g1.only o2 (by omega); replace hB := hB.trans (o2.below (Nat.le_refl _)); clear o2; refine Hid.out ?_) | (refine st_cell g (by rfl) (by rfl) (by decide) ?_; clear g; intro v2 g o2; replace g1 := g1.only o2 (by omega); replace hB := hB.trans (o2.below (Nat.le_refl _)); clear o2))
   replace g : ArrAt v2 w.heap.size .u32 207 16 (qrow s0 0 4 8 12) := g
   have W1 := qrow_w (a := 0) (b := 4) (c := 8) (d := 12) W0 (by decide) (by decide) (by decide) (by decide)
   generalize qrow s0 0 4 8 12 = s1 at *
   clear W0
   refine Hid.mk ?_
   go_wp2_with (first | (refine ld_cell g (by rfl) (by decide) ?_))
   refine (quarter_run (s1 1) (s1 5) (s1 9) (s1 13) _ (W1 1 (by decide)) (W1 5 (by decide)) (W1 9 (by decide)) (W1 13 (by decide))).mono ?_
   rintro e vq ⟨rfl, rfl⟩
   go_wp2_with (first | (refine st_cell (i := 13) g (by rfl) (by rfl) (by decide) ?_; clear g; intro v2 g o2; replace g1 := g1.only o2 (by omega); replace hB := hB.trans (o2.below (Nat.le_refl _)); clear o2; refine Hid.out ?_) | (refine st_cell g (by rfl) (by rfl) (by decide) ?_; clear g; intro v2 g o2; replace g1 := g1.only o2 (by omega); replace hB := hB.trans (o2.below (Nat.le_refl _)); clear o2))
   replace g : ArrAt v2 w.heap.size .u32 207 16 (qrow s1 1 5 9 13) := g
   have W2 := qrow_w (a := 1) (b := 5) (c := 9) (d := 13) W1 (by decide) (by decide) (by decide) (by decide)
   generalize qrow s1 1 5 9 13 = s2 at *
   clear W1
   refine Hid.mk ?_
   go_wp2_with (first | (refine ld_cell g (by rfl) (by decide) ?_))
   refine (quarter_run (s2 2) (s2 6) (s2 10) (s2 14) _ (W2 2 (by decide)) (W2 6 (by decide)) (W2 10 (by decide)) (W2 14 (by decide))).mono ?_
   rintro e vq ⟨rfl, rfl⟩
   go_wp2_with (first | (refine st_cell (i := 14) g (by rfl) (by rfl) (by decide) ?_; clear g; intro v2 g o2; replace g1 := g1.only o2 (by omega); replace hB := hB.trans (o2.below (Nat.le_refl _)); clear o2; refine Hid.out ?_) | (refine st_cell g (by rfl) (by rfl) (by decide) ?_; clear g; intro v2 g o2; replace g1 := g1.only o2 (by omega); replace hB := hB.trans (o2.below (Nat.le_refl _)); clear o2))
   replace g : ArrAt v2 w.heap.size .u32 207 16 (qrow s2 2 6 10 14) := g
   have W3 := qrow_w (a := 2) (b := 6) (c := 10) (d := 14) W2 (by decide) (by decide) (by decide) (by decide)
   generalize qrow s2 2 6 10 14 = s3 at *
   clear W2
   refine Hid.mk ?_
   go_wp2_with (first | (refine ld_cell g (by rfl) (by decide) ?_))
   refine (quarter_run (s3 3) (s3 7) (s3 11) (s3 15) _ (W3 3 (by decide)) (W3 7 (by decide)) (W3 11 (by decide)) (W3 15 (by decide))).mono ?_
   rintro e vq ⟨rfl, rfl⟩
   go_wp2_with (first | (refine st_cell (i := 15) g (by rfl) (by rfl) (by decide) ?_; clear g; intro v2 g o2; replace g1 := g1.only o2 (by omega); replace hB := hB.trans (o2.below (Nat.le_refl _)); clear o2; refine Hid.out ?_) | (refine st_cell g (by rfl) (by rfl) (by decide) ?_; clear g; intro v2 g o2; replace g1 := g1.only o2 (by omega); replace hB := hB.trans (o2.below (Nat.le_refl _)); clear o2))
   replace g : ArrAt v2 w.heap.size .u32 207 16 (qrow s3 3 7 11 15) := g
   have W4 := qrow_w (a := 3) (b := 7) (c := 11) (d := 15) W3 (by decide) (by decide) (by decide) (by decide)
   generalize qrow s3 3 7 11 15 = s4 at *
   clear W3
   refine Hid.mk ?_
   go_wp2_with (first | (refine ld_cell g (by rfl) (by decide) ?_))
   refine (quarter_run (s4 0) (s4 5) (s4 10) (s4 15) _ (W4 0 (by decide)) (W4 5 (by decide)) (W4 10 (by decide)) (W4 15 (by decide))).mono ?_
   rintro e vq ⟨rfl, rfl⟩
   go_wp2_with (first | (refine st_cell (i := 15) g (by rfl) (by rfl) (by decide) ?_; clear g; intro v2 g o2; replace g1 := g1.only o2 (by omega); replace hB := hB.trans (o2.below (Nat.le_refl _)); clear o2; refine Hid.out ?_) | (refine st_cell g (by rfl) (by rfl) (by decide) ?_; clear g; intro v2 g o2; replace g1 := g1.only o2 (by omega); replace hB := hB.trans (o2.below (Nat.le_refl _)); clear o2))
   replace g : ArrAt v2 w.heap.size .u32 207 16 (qrow s4 0 5 10 15) := g
   have W5 := qrow_w (a := 0) (b := 5) (c := 10) (d := 15) W4 (by decide) (by decide) (by decide) (by decide)
   generalize qrow s4 0 5 10 15 = s5 at *
   clear W4
   refine Hid.mk ?_
   go_wp2_with (first | (refine ld_cell g (by rfl) (by decide) ?_))
   refine (quarter_run (s5 1) (s5 6) (s5 11) (s5 12) _ (W5 1 (by decide)) (W5 6 (by decide)) (W5 11 (by decide)) (W5 12 (by decide))).mono ?_
   rintro e vq ⟨rfl, rfl⟩
   go_wp2_with (first | (refine st_cell (i := 12) g (by rfl) (by rfl) (by decide) ?_; clear g; intro v2 g o2; replace g1 := g1.only o2 (by omega); replace hB := hB.trans (o2.below (Nat.le_refl _)); clear o2; refine Hid.out ?_) | (refine st_cell g (by rfl) (by rfl) (by decide) ?_; clear g; intro v2 g o2; replace g1 := g1.only o2 (by omega); replace hB := hB.trans (o2.below (Nat.le_refl _)); clear o2))
   replace g : ArrAt v2 w.heap.size .u32 207 16 (qrow s5 1 6 11 12) := g
   have W6 := qrow_w (a := 1) (b := 6) (c := 11) (d := 12) W5 (by decide) (by decide) (by decide) (by decide)
   generalize qrow s5 1 6 11 12 = s6 at *
   clear W5
   refine Hid.mk ?_
   go_wp2_with (first | (refine ld_cell g (by rfl) (by decide) ?_))
   refine (quarter_run (s6 2) (s6 7) (s6 8) (s6 13) _ (W6 2 (by decide)) (W6 7 (by decide)) (W6 8 (by decide)) (W6 13 (by decide))).mono ?_
   rintro e vq ⟨rfl, rfl⟩
   go_wp2_with (first | (refine st_cell (i := 13) g (by rfl) (by rfl) (by decide) ?_; clear g; intro v2 g o2; replace g1 := g1.only o2 (by omega); replace hB := hB.trans (o2.below (Nat.le_refl _)); clear o2; refine Hid.out ?_) | (refine st_cell g (by rfl) (by rfl) (by decide) ?_; clear g; intro v2 g o2; replace g1 := g1.only o2 (by omega); replace hB := hB.trans (o2.below (Nat.le_refl _)); clear o2))
   replace g : ArrAt v2 w.heap.size .u32 207 16 (qrow s6 2 7 8 13) := g
   have W7 := qrow_w (a := 2) (b := 7) (c := 8) (d := 13) W6 (by decide) (by decide) (by decide) (by decide)
   generalize qrow s6 2 7 8 13 = s7 at *
   clear W6
   refine Hid.mk ?_
   go_wp2_with (first | (refine ld_cell g (by rfl) (by decide) ?_))
   refine (quarter_run (s7 3) (s7 4) (s7 9) (s7 14) _ (W7 3 (by decide)) (W7 4 (by decide)) (W7 9 (by decide)) (W7 14 (by decide))).mono ?_
   rintro e vq ⟨rfl, rfl⟩
   go_wp2_with (first | (refine st_cell (i := 14) g (by rfl) (by rfl) (by decide) ?_; clear g; intro v2 g o2; replace g1 := g1.only o2 (by omega); replace hB := hB.trans (o2.below (Nat.le_refl _)); clear o2; refine Hid.out ?_) | (refine st_cell g (by rfl) (by rfl) (by decide) ?_; clear g; intro v2 g o2; replace g1 := g1.only o2 (by omega); replace hB := hB.trans (o2.below (Nat.le_refl _)); clear o2))
   replace g : ArrAt v2 w.heap.size .u32 207 16 (qrow s7 3 4 9 14) := g
   have W8 := qrow_w (a := 3) (b := 4) (c := 9) (d := 14) W7 (by decide) (by decide) (by decide) (by decide)
   rw [HN.out] at g
   refine Hid.mk ?_
   go_wp2_with fail
   go_roundg (10 - (k + 1))
   case rel => exact ⟨k + 1, Hid.mk (by omega), by go_num, g, g1, hB⟩
   case measure => have := HK.out; omega
  ·have hk2 : k = 10 := by omega
   subst hk2
   clear hlt hk10 HK
   go_wp2_with (first | (refine ld_arr isSq g (by rfl) ?_) | (refine st_arr isSq g1 (by rfl) (by rfl) ?_; intro v4 g4 o4))
   exact bodyPost_ret (v := .agg (WA .u32 16 (rnds s 10))) (res_arr rfl isSq g4 rfl) rfl ⟨rfl, hB.trans (o4.below (by omega))⟩
end Go.Proofs.YthghcjepdhkfdaaGreatDoor

/-
  Own text. What twenty of the document's answer gives.
-/
namespace Go.Proofs.YthghcjepdhkfdaaGreatDoor
open Go.RowKit Go.Proofs
set_option maxRecDepth 100000
end Go.Proofs.YthghcjepdhkfdaaGreatDoor

/-
  Own text. What block and Block of package chacha give.
-/
namespace Go.Proofs.YthghcjepdhkfdaaGreatDoor
open Go.RowKit Go.Proofs
set_option maxRecDepth 100000
def pw (f : Nat → Int) : Nat → Nat → Int
 | 0 => fun _ => 0
 | k + 1 => putw (pw f k) k (f k)
theorem pw_byts (f : Nat → Int) (n : Nat) : ∀ k, Byts n (pw f k)
 | 0 => fun i _ => by simp [pw]
 | k + 1 => putw_byts (pw_byts f n k)
def bsum (s : Nat → Int) (i : Nat) : Int := addw (rnds s 10 i) (s i)
def blk (s : Nat → Int) : Nat → Int := pw (bsum s) 16
theorem sl64 (b : Nat) (w : World) : (Instr.sliceAt 183 (.pointer (some ⟨b, 0, none⟩)) none none none).run Tryz.prog w = .ok (.slice (some ⟨b, 0, none⟩) 64 64) w := by simp [go_sem]
theorem undSq : Tryz.prog.underlying 207 = some (.array (Tryz.prog.arrayLen 207) (Tryz.prog.elem 207)) := Tryz.underlying207
theorem lenSq : Tryz.prog.arrayLen 207 = 16 := by kernel_rfl
theorem sizeSq (w : World) : (sizeOf (Tryz.prog.elem 207)).run Tryz.prog w = .ok 1 w := by kernel_rfl
theorem enterPut (args : Array Value) (w : World) : (callFunc 202 args).run Tryz.prog w = .ok (.enter 202 args) w := by kernel_rfl
set_option maxHeartbeats 2000000 in
theorem block_run (s : Nat → Int) (w : World) (hs : ∀ i, i < 16 → W32 (s i)) :
  Calls Tryz.prog 184 #[.agg (WA .u32 16 s)] w fun e w' => e = .returned (.agg (WA .u8 64 (blk s))) ∧ Below w.heap.size w w' := by
 have g0 : ArrAt ((w.alloc (.cells (WA .u32 16 s) 207)).alloc (.cells (WA .u8 64 fun _ => 0) 183)) w.heap.size .u32 207 16 s := heap_alloc2_old w _ _
 have g1 : ArrAt ((w.alloc (.cells (WA .u32 16 s) 207)).alloc (.cells (WA .u8 64 fun _ => 0) 183)) (w.heap.size + 1) .u8 183 64 (fun _ => 0) := heap_alloc2_new w _ _
 have hB : Below w.heap.size w ((w.alloc (.cells (WA .u32 16 s) 207)).alloc (.cells (WA .u8 64 fun _ => 0) 183)) := ((Below.refl _ w).alloc (by simp) _).alloc (by simp) _
 go_enter Tryz.func184, Tryz.ntmps184
 go_wp2_with (first | (refine ld_arr isSq g0 (by rfl) ?_))
 refine (rounds_run s _ hs).mono ?_
 rintro e v1 ⟨rfl, hb⟩
 replace g0 := g0.kept hb
 replace g1 := g1.kept hb
 replace hB := hB.trans (hb.mono hB.size)
 clear hb
 have W1 := rnds_w hs 10
 have HE : Hid (∀ i, addw (rnds s 10 i) (s i) = bsum s i) := Hid.mk (fun _ => rfl)
 have HP : Hid (pw (bsum s) 16 = blk s) := Hid.mk rfl
 generalize rnds s 10 = r at *
 go_wp2_with (first | (refine st_arr (s' := fun _ => 0) (k' := .u32) isSq (heap_alloc_new v1 _) (by rfl) (by rfl) ?_; intro v2 g3 o3; refine Hid.out ?_))
 have hs1 := g1.lt
 replace g0 := (g0.alloc _).only o3 (Nat.ne_of_lt g0.lt)
 replace g1 := (g1.alloc _).only o3 (Nat.ne_of_lt g1.lt)
 replace hB := (hB.alloc hB.size _).trans (o3.below hB.size)
 clear o3
 generalize v1.heap.size = B3 at *
 refine Hid.mk ?_
 go_wp2_with fail
 have g4 : ArrAt (v2.alloc (.cells (WA .u8 64 fun _ => 0) 183)) v2.heap.size .u8 183 64 (pw (bsum s) 0) := heap_alloc_new v2 _
 have hs2 := g3.lt
 go_loopg [8] 16 (fun m i v => ∃ k : Nat, Hid (m + k = 16) ∧ i = .int .i64 k ∧ ArrAt v w.heap.size .u32 207 16 s ∧ ArrAt v (w.heap.size + 1) .u8 183 64 (fun _ => 0) ∧ ArrAt v B3 .u32 207 16 r ∧ ArrAt v v2.heap.size .u8 183 64 (pw (bsum s) k) ∧ Below w.heap.size w v)
 case atStart => exact ⟨0, Hid.mk rfl, rfl, g0.alloc _, g1.alloc _, g3.alloc _, g4, hB.alloc hB.size _⟩
 case round =>
  clear g0 g1 g3 g4 hB
  obtain ⟨k, HK, rfl, g0, g1, g3, g4, hB⟩ := hrel
  generalize v2.heap.size = B4 at *
  have hk16 : k ≤ 16 := by have := HK.out; omega
  by_cases hlt : k < 16
  ·go_wp2_with fail
   refine wp_region3 (Below w.heap.size w) wr.heap.size
    [(B3, fixd (WA .u32 16 r) 207), (w.heap.size, fixd (WA .u32 16 s) 207), (B4, once (WA .u8 64 (pw (bsum s) k)) 183 9 (WA .u8 64 (pw (bsum s) (k + 1)))), ((w.heap.size + 1), fixd (WA .u8 64 (fun _ => 0)) 183)]
    [kv (.slice (some ⟨B4, 0, none⟩) 64 64), kv (.int .i64 (k : Int)), kv (.int .i64 (k : Int)), kv (.pointer (some ⟨B3, k, none⟩)), kv (.int .u32 (r k)), kv (.int .i64 (k : Int)), kv (.pointer (some ⟨w.heap.size, k, none⟩)), kv (.int .u32 (s k)), kv (.int .u32 (bsum s k)), kv (.tuple #[])]
    [.none, .none, .none, .none, .none, .none, .none, .none, .none, .base 2 1]
    [some 11, some 12, some 13, some 14, some 15, some 16, some 17, some 18, some 19, some 20]
    [(1, .pointer (some ⟨w.heap.size, 0, none⟩)), (3, .pointer (some ⟨B3, 0, none⟩)), (4, .pointer (some ⟨B4, 0, none⟩)), (5, .int .i64 (k : Int))]
    [[], [], [], [.slot 2], [.slot 3, .base 0 0], [], [.slot 5], [.slot 6, .base 1 0], [.slot 4, .slot 7], [.slot 0, .slot 1, .slot 8, .base 2 0]]
    [.base 0 0, .base 1 0, .base 2 1, .base 3 0] [11, 12, 13, 14, 15, 16, 17, 18, 19, 20]
    rfl (by kernel_rfl) ⟨rfl, rfl, rfl, rfl, trivial⟩ (Below.drew hB) (Nat.le_refl _) ⟨⟨g3.lt, obIn g3⟩, ⟨g0.lt, obIn g0⟩, ⟨g4.lt, obIn g4⟩, ⟨g1.lt, obIn g1⟩, trivial⟩ ⟨⟨trivial, (show (B3 : Nat) ≠ B4 from by omega), trivial, trivial⟩, ⟨(show (w.heap.size : Nat) ≠ B4 from by omega), trivial, trivial⟩, ⟨(show (B4 : Nat) ≠ (w.heap.size + 1) from by omega), trivial⟩, trivial, trivial⟩ (below_G hB.size ⟨by omega, by omega, by omega, by omega, trivial⟩)
    ⟨
     (fun Q aq ww own hS hBg fr kn => .inl ⟨trivial, fun K hK => wp_value (exec_sl rfl fr.2.2.1 (sl64 _ _)) (hK _ _ ⟨Touch.refl _ _, rfl⟩)⟩),
     (fun Q aq ww own hS hBg fr kn => .inl ⟨trivial, fun K hK => wp_value (exec_move rfl fr.2.2.2.1) (hK _ _ ⟨Touch.refl _ _, rfl⟩)⟩),
     (fun Q aq ww own hS hBg fr kn => .inl ⟨trivial, fun K hK => wp_value (exec_move rfl fr.2.2.2.1) (hK _ _ ⟨Touch.refl _ _, rfl⟩)⟩),
     (fun Q aq ww own hS hBg fr kn => .inl ⟨trivial, fun K hK => wp_value (exec_idxA rfl undSq lenSq sizeSq fr.2.1 kn.1 hlt) (hK _ _ ⟨Touch.refl _ _, rfl⟩)⟩),
     (fun Q aq ww own hS hBg fr kn => .inl ⟨trivial, fun K hK => wp_value (exec_ld rfl kn.1 (run_load32 (ArrAt.cell (obAt kn.2.1) k hlt))) (hK _ _ ⟨Touch.refl _ _, rfl⟩)⟩),
     (fun Q aq ww own hS hBg fr kn => .inl ⟨trivial, fun K hK => wp_value (exec_move rfl fr.2.2.2.1) (hK _ _ ⟨Touch.refl _ _, rfl⟩)⟩),
     (fun Q aq ww own hS hBg fr kn => .inl ⟨trivial, fun K hK => wp_value (exec_idxA rfl undSq lenSq sizeSq fr.1 kn.1 hlt) (hK _ _ ⟨Touch.refl _ _, rfl⟩)⟩),
     (fun Q aq ww own hS hBg fr kn => .inl ⟨trivial, fun K hK => wp_value (exec_ld rfl kn.1 (run_load32 (ArrAt.cell (obAt kn.2.1) k hlt))) (hK _ _ ⟨Touch.refl _ _, rfl⟩)⟩),
     (fun Q aq ww own hS hBg fr kn => .inl ⟨trivial, fun K hK => wp_value (exec_add32 rfl kn.1 kn.2.1) (hK _ _ ⟨Touch.refl _ _, congrArg (Value.int .u32) (HE.out k)⟩)⟩),
     (fun Q aq ww own hS hBg fr kn => .inl ⟨trivial, fun K hK => stepp enterPut rfl (args3 kn.1 kn.2.1 kn.2.2.1) ((putWord_arr B4 64 (pw (bsum s) k) k (bsum s k) ww (obAt kn.2.2.2.1) (by rw [← HE.out k]; exact addw_w _ _) (by omega) (by omega)).mono (fun e w' ⟨he, h1, h2⟩ => ⟨_, he, rfl, h1, h2⟩)) (R := fun u w' => u = .tuple #[] ∧ ArrAt w' B4 .u8 _ 64 (putw (pw (bsum s) k) k (bsum s k)) ∧ Only B4 ww w') (fun v w' ⟨hv, h1, h2⟩ => hK _ _ ⟨⟨touch_only h2, obIn h1⟩, hv⟩)⟩),
     trivial⟩ ?_
   intro vs own v5 hB5 hs5 kn inj
   clear inj
   have G3 := obAt kn.1
   have G0 := obAt kn.2.1
   have G4 := obAt kn.2.2.1
   have G1 : ArrAt v5 (w.heap.size + 1) .u8 183 64 (fun _ => 0) := obAt kn.2.2.2.1
   simp only [putAll, Act.put, List.setIfInBounds_toArray, List.set_cons_zero, List.set_cons_succ]
   go_wp2_with fail
   go_roundg (16 - (k + 1))
   case rel => exact ⟨k + 1, Hid.mk (by omega), by go_num, G0, G1, G3, G4, hB5⟩
   case measure => have := HK.out; omega
  ·have hk2 : k = 16 := by omega
   subst hk2
   clear hlt hk16 HK
   rw [HP.out] at g4
   go_wp2_with (first | (refine ld_arr isArr64 g4 (by rfl) ?_) | (refine st_arr isArr64 g1 (by rfl) (by rfl) ?_; intro v4 g5 o5))
   exact bodyPost_ret (v := .agg (WA .u8 64 (blk s))) (res_arr rfl isArr64 g5 rfl) rfl ⟨rfl, hB.trans (o5.below (by omega))⟩
end Go.Proofs.YthghcjepdhkfdaaGreatDoor

/-
  Own text. What Block and Derive of package chacha give.
-/
namespace Go.Proofs.YthghcjepdhkfdaaGreatDoor
open Go.RowKit Go.Proofs
set_option maxRecDepth 100000
theorem lets_w (i : Nat) (h : i < 4) : W32 (wrd lets i) := wrd_w lets_byts (by omega)
theorem ksq_w {key : Nat → Int} (hk : Byts 32 key) (n : Nat) : ∀ i, i < 12 → W32 (ksq key n i) := fun i hi => by
 unfold ksq
 split
 ·split
  ·exact lets_w i (by assumption)
  ·exact wrd_w hk (by omega)
 ·unfold W32; omega
theorem ssq_w {key nonce : Nat → Int} {c : Int} (hk : Byts 32 key) (hn : Byts 12 nonce) (hc : W32 c) : ∀ i, i < 16 → W32 (ssq key c nonce 3 i) := fun i hi => by
 unfold ssq
 split
 ·exact hc
 ·split
  ·exact wrd_w hn (by omega)
  ·exact ksq_w hk 12 i (by omega)
set_option maxHeartbeats 1000000 in
set_option maxRecDepth 100000 in
theorem Block_run (key nonce : Nat → Int) (c : Int) (w : World) (hk : Byts 32 key) (hn : Byts 12 nonce) (hc : W32 c) :
  Calls Tryz.prog 212 #[.agg (WA .u8 32 key), .int .u32 c, .agg (WA .u8 12 nonce)] w fun e w' => e = .returned (.agg (WA .u8 64 (blk (ssq key c nonce 3)))) ∧ Below w.heap.size w w' := by
 have g0 : ArrAt (((w.alloc (.cells (WA .u8 32 key) 22)).alloc (.cells (WA .u8 12 nonce) 26)).alloc (.cells (WA .u8 64 fun _ => 0) 183)) w.heap.size .u8 22 32 key := heap_a31 w _ _ _
 have g1 : ArrAt (((w.alloc (.cells (WA .u8 32 key) 22)).alloc (.cells (WA .u8 12 nonce) 26)).alloc (.cells (WA .u8 64 fun _ => 0) 183)) (w.heap.size + 1) .u8 26 12 nonce := heap_a32 w _ _ _
 have g2 : ArrAt (((w.alloc (.cells (WA .u8 32 key) 22)).alloc (.cells (WA .u8 12 nonce) 26)).alloc (.cells (WA .u8 64 fun _ => 0) 183)) (w.heap.size + 1 + 1) .u8 183 64 (fun _ => 0) := heap_a3 w _ _ _
 have hB : Below w.heap.size w (((w.alloc (.cells (WA .u8 32 key) 22)).alloc (.cells (WA .u8 12 nonce) 26)).alloc (.cells (WA .u8 64 fun _ => 0) 183)) := (((Below.refl _ w).alloc (by simp) _).alloc (by simp) _).alloc (by simp; omega) _
 have hS := fun w => streamSquare_run key nonce c w hk hn
 have hw := ssq_w hk hn hc
 generalize ssq key c nonce 3 = sq at *
 go_enter Tryz.func212, Tryz.ntmps212
 go_wp2_with (first | (refine ld_arr isArr32 g0 (by rfl) ?_) | (refine ld_arr isArr12 g1 (by rfl) ?_))
 refine (hS _).mono ?_
 rintro e v1 ⟨rfl, hb⟩
 replace g2 := g2.kept hb
 replace hB := hB.trans (hb.mono hB.size)
 clear hb g0 g1
 go_wp2_with fail
 refine (block_run sq _ hw).mono ?_
 rintro e v2 ⟨rfl, hb⟩
 replace g2 := g2.kept hb
 replace hB := hB.trans (hb.mono hB.size)
 clear hb
 go_wp2_with (first | (refine st_arr isArr64 g2 (by rfl) (by rfl) ?_; intro v4 g5 o5))
 exact bodyPost_ret (v := .agg (WA .u8 64 (blk sq))) (res_arr rfl isArr64 g5 rfl) rfl ⟨rfl, hB.trans (o5.below (by omega))⟩
end Go.Proofs.YthghcjepdhkfdaaGreatDoor

/-
  Own text. Copies into arrays; slices of arrays; steps for regions that leave their order open.
-/
namespace Go.Proofs.YthghcjepdhkfdaaGreatDoor
open Go.RowKit Go.Proofs
set_option maxRecDepth 100000
end Go.Proofs.YthghcjepdhkfdaaGreatDoor

/-
  Own text. What Block of the document's answer gives: the block of package chacha's square.
-/
namespace Go.Proofs.YthghcjepdhkfdaaGreatDoor
open Go.RowKit Go.Proofs
set_option maxRecDepth 100000
end Go.Proofs.YthghcjepdhkfdaaGreatDoor

/-
  Own text. What Derive of package chacha gives.
-/
namespace Go.Proofs.YthghcjepdhkfdaaGreatDoor
open Go.RowKit Go.Proofs
set_option maxRecDepth 100000
def dv (f : Nat → Int) : Nat → Nat → Int
 | 0 => fun _ => 0
 | k + 1 => putw (putw (dv f k) k (f k)) (4 + k) (f (12 + k))
end Go.Proofs.YthghcjepdhkfdaaGreatDoor

/-
  Own text. What Derive of the document's answer gives: the same.
-/
namespace Go.Proofs.YthghcjepdhkfdaaGreatDoor
open Go.RowKit Go.Proofs
set_option maxRecDepth 100000
end Go.Proofs.YthghcjepdhkfdaaGreatDoor

/-
  Own text. The library's contracts for strings.Builder at this program (laid by the command of the guide, in plain words).
-/
namespace Go.Proofs.YthghcjepdhkfdaaGreatDoor
open Go.Proofs
set_option maxRecDepth 100000
open Go.Shelf
def lays169_ren : Go.Shelf.Ren := ⟨fun | 169 => 186 | n => n, fun | 70 => 209 | 9 => 9 | 0 => 0 | 72 => 211 | 37 => 81 | 127 => 234 | 3 => 3 | 5 => 5 | n => n, fun | n => n⟩
theorem lays169 : Go.Proofs.Lays.n169 Tryz.prog lays169_ren := {
 mixed := by kernel_rfl
 f169 := Tryz.func186.trans (congrArg some (by kernel_rfl))
 t0 := Tryz.underlying0
 a0 := Tryz.isAgg0
 z0 := Tryz.sizeOf0
 v0 := Tryz.zeroValue0
 t3 := Tryz.underlying3
 a3 := Tryz.isAgg3
 z3 := Tryz.sizeOf3
 v3 := Tryz.zeroValue3
 t9 := Tryz.underlying9
 a9 := Tryz.isAgg9
 z9 := Tryz.sizeOf9
 v9 := Tryz.zeroValue9
 t37 := Tryz.underlying81
 a37 := Tryz.isAgg81
 z37 := Tryz.sizeOf81
 v37 := Tryz.zeroValue81
 t70 := Tryz.underlying209
 a70 := Tryz.isAgg209
 z70 := Tryz.sizeOf209
 v70 := Tryz.zeroValue209
 t72 := Tryz.underlying211
 a72 := Tryz.isAgg211
 z72 := Tryz.sizeOf211
 v72 := Tryz.zeroValue211
 t127 := Tryz.underlying234
 a127 := Tryz.isAgg234
 z127 := Tryz.sizeOf234
 v127 := Tryz.zeroValue234 }
theorem Builder_Extra_169 : Builder.Extra Tryz.prog lays169_ren := {
 sizeBuilder := by kernel_rfl
 liesBuilder := by kernel_rfl
 t5 := Tryz.underlying5
 a5 := Tryz.isAgg5
 z5 := Tryz.sizeOf5
 v5 := Tryz.zeroValue5
 infoByte := by kernel_rfl
 cellsByte := by kernel_rfl
 sizeByte := by kernel_rfl
 neB5 := by decide }
open Go.RowKit in
theorem Builder_String_any (B b : Nat) (l : List UInt8) (w : World) (h : Lib.IsBuilder 211 5 B b (Lib.byteCells l) w) (hBw : B ≤ w.heap.size) :
  Calls Tryz.prog 186 #[.pointer (some ⟨b, 0, none⟩)] w fun e w' => e = .returned (.string ⟨l.toArray⟩) ∧ Below B w w' := Any.Builder_String_any lays169 Builder_Extra_169 B b l w h hBw
def lays165_ren : Go.Shelf.Ren := ⟨fun | 165 => 182 | 240 => 207 | 241 => 208 | 276 => 218 | 277 => 219 | n => n, fun | 70 => 209 | 3 => 3 | 0 => 0 | 4 => 4 | 9 => 9 | 20 => 20 | 72 => 211 | 37 => 81 | 164 => 244 | 5 => 5 | n => n, fun | n => n⟩
theorem lays165 : Go.Proofs.Lays.n165 Tryz.prog lays165_ren := {
 mixed := by kernel_rfl
 f165 := Tryz.func182.trans (congrArg some (by kernel_rfl))
 f240 := Tryz.func207.trans (congrArg some (by kernel_rfl))
 f241 := Tryz.func208.trans (congrArg some (by kernel_rfl))
 f276 := Tryz.func218.trans (congrArg some (by kernel_rfl))
 f277 := Tryz.func219.trans (congrArg some (by kernel_rfl))
 t0 := Tryz.underlying0
 a0 := Tryz.isAgg0
 z0 := Tryz.sizeOf0
 v0 := Tryz.zeroValue0
 t3 := Tryz.underlying3
 a3 := Tryz.isAgg3
 z3 := Tryz.sizeOf3
 v3 := Tryz.zeroValue3
 t4 := Tryz.underlying4
 a4 := Tryz.isAgg4
 z4 := Tryz.sizeOf4
 v4 := Tryz.zeroValue4
 t9 := Tryz.underlying9
 a9 := Tryz.isAgg9
 z9 := Tryz.sizeOf9
 v9 := Tryz.zeroValue9
 t20 := Tryz.underlying20
 a20 := Tryz.isAgg20
 z20 := Tryz.sizeOf20
 v20 := Tryz.zeroValue20
 t37 := Tryz.underlying81
 a37 := Tryz.isAgg81
 z37 := Tryz.sizeOf81
 v37 := Tryz.zeroValue81
 t70 := Tryz.underlying209
 a70 := Tryz.isAgg209
 z70 := Tryz.sizeOf209
 v70 := Tryz.zeroValue209
 t72 := Tryz.underlying211
 a72 := Tryz.isAgg211
 z72 := Tryz.sizeOf211
 v72 := Tryz.zeroValue211
 t164 := Tryz.underlying244
 a164 := Tryz.isAgg244
 z164 := Tryz.sizeOf244
 v164 := Tryz.zeroValue244 }
theorem Builder_Extra_165 : Builder.Extra Tryz.prog lays165_ren := {
 sizeBuilder := by kernel_rfl
 liesBuilder := by kernel_rfl
 t5 := Tryz.underlying5
 a5 := Tryz.isAgg5
 z5 := Tryz.sizeOf5
 v5 := Tryz.zeroValue5
 infoByte := by kernel_rfl
 cellsByte := by kernel_rfl
 sizeByte := by kernel_rfl
 neB5 := by decide }
open Go.RowKit in
theorem Builder_Grow_fresh (B b n : Nat) (w : World) (hB : B ≤ b) (hbk : w.heap[b]? = some (.cells #[.pointer none, .slice none 0 0] 211 (0, 0))) (hBw : B ≤ w.heap.size) (hn : n ≤ 281474976710656) :
  Calls Tryz.prog 182 #[.pointer (some ⟨b, 0, none⟩), .int .i64 n] w fun e w' => e = .returned (.tuple #[]) ∧ (Lib.BuilderAt 211 5 B b (.pointer (some ⟨b, 0, none⟩)) [] w' ∧ Below B w w') := Any.Builder_Grow_fresh lays165 Builder_Extra_165 B b n w hB hbk hBw hn
open Go.RowKit in
theorem copyCheck_used (b : Nat) (w : World) (h0 : w.cell? ⟨b, 0, none⟩ = some (.pointer (some ⟨b, 0, none⟩))) :
  Calls Tryz.prog 207 #[.pointer (some ⟨b, 0, none⟩)] w fun e w' => e = .returned (.tuple #[]) ∧ w' = w := Any.Builder_copyCheck_used { lays165 with } Builder_Extra_165.toX72 b w h0
end Go.Proofs.YthghcjepdhkfdaaGreatDoor

/-
  Own text. What (*strings.Builder).Write does to a builder that a call has made itself; texts as numbers.
-/
namespace Go.Proofs.YthghcjepdhkfdaaGreatDoor
open Go.RowKit Go.Proofs
set_option maxRecDepth 100000
def Bld (w : World) (B b n : Nat) (f : Nat → Int) : Prop := Lib.BuilderAt 211 5 B b (.pointer (some ⟨b, 0, none⟩)) (nums .u8 n f) w
theorem Bld.kept {w w' : World} {B b n : Nat} {f : Nat → Int} (h : Bld w B b n f) (hb : Below w.heap.size w w') : Bld w' B b n f := by
 obtain ⟨hB, v, hk, ho, hn⟩ := h
 exact ⟨hB, v, (hb.block b (heap_lt hk)).trans hk, own_kept ho hb, hn⟩
theorem Bld.congr {w : World} {B b n : Nat} {f g : Nat → Int} (h : Bld w B b n f) (e : ∀ i, i < n → f i = g i) : Bld w B b n g := by
 unfold Bld; rw [← nums_congr e]; exact h
theorem neB5 : 211 ≠ 5 := by decide
set_option maxHeartbeats 1000000 in
theorem write_run (B b n m c bd off : Nat) (f r : Nat → Int) (w : World) (h : Bld w B b n f) (hc : ∀ j, j < m → w.cell? ⟨bd, off + j, none⟩ = some (.int .u8 (r j))) (hlen : n + m ≤ 140737488355328) (hBw : B ≤ w.heap.size) :
  Calls Tryz.prog 185 #[.pointer (some ⟨b, 0, none⟩), .slice (some ⟨bd, off, none⟩) m c] w fun e w' => e = .returned (.tuple #[.int .i64 m, .nilIface]) ∧ Bld w' B b (n + m) (cat n f r) ∧ Below B w w' := by
 obtain ⟨i0, hi, hz0, hz1, hz2⟩ := info_parts infoByte
 obtain ⟨hB, v, hbk, hown, hne⟩ := h
 rw [nums_len] at hown
 have c0 : w.cell? ⟨b, 0, none⟩ = some (.pointer (some ⟨b, 0, none⟩)) := by rw [Lib.cell_of_heap hbk]; rfl
 have c1 : w.cell? ⟨b, 1, none⟩ = some v := by rw [Lib.cell_of_heap hbk]; rfl
 have HC : Hid (∀ j u, (nums .u8 m r)[j]? = some u → w.cell? ((⟨bd, off, none⟩ : Addr).add j) = some u) := Hid.mk (fun j u hj => by
  obtain ⟨hj2, rfl⟩ := nums_get hj
  rw [Addr.add_lit]
  exact hc j hj2)
 clear hc
 go_enter Tryz.func185, Tryz.ntmps185
 go_wp2_with fail
 refine (copyCheck_used b w c0).mono ?_
 rintro e w1 ⟨rfl, rfl⟩
 go_wp2_with (at_builtin; refine wpList_append_own w1 rfl _ _ 81 rfl B 5 i0 (.int .u8 0) 1 1 Tryz.underlying81 hi hz0 hz1 hz2 rfl (by decide) _ n _ rfl hown ⟨bd, off, none⟩ m c (nums .u8 m r) rfl (by rw [nums_len]; omega) HC.out nums_one ?c3 ?c4 hBw ?_)
 case c3 => unfold maxLen; omega
 case c4 => omega
 intro v' w2 hown' hgrow _
 clear HC
 rw [nums_cat] at hown'
 have hlt : b < w1.heap.size := heap_lt hbk
 have hb2 : w2.heap[b]? = some (.cells #[.pointer (some ⟨b, 0, none⟩), v] 211 (0, 0)) := by
  rw [hgrow.block b hlt (fun e => hne e.symm)]
  exact hbk
 have d0 : w2.cell? ⟨b, 0, none⟩ = some (.pointer (some ⟨b, 0, none⟩)) := by rw [Lib.cell_of_heap hb2]; rfl
 have d1 : w2.cell? ⟨b, 1, none⟩ = some v := by rw [Lib.cell_of_heap hb2]; rfl
 have f1 : w2.frozen? ⟨b, 1, none⟩ = false := Lib.frozen_of_heap hb2 1
 obtain ⟨ao, n', cap, rfl⟩ : ∃ ao n' cap, v' = .slice ao n' cap := by
  rcases hown'.2 with ⟨hv, _⟩ | ⟨g, cap, cur, hv, _⟩
  ·exact ⟨_, _, _, hv⟩
  ·exact ⟨_, _, _, hv⟩
 go_wp2
 exact bodyPost_ret (v := .tuple #[.int .i64 m, .nilIface]) (by simp [results, Tryz.results185, go_sem]) rfl
  ⟨rfl, Lib.BuilderAt.put hB hb2 (by rw [nums_len]; exact hown') neB5, (Below.grow hgrow hBw (own_base hown)).setCell (p := ⟨b, 1, none⟩) hB _⟩
theorem string_run (B b n : Nat) (f : Nat → Int) (w : World) (h : Bld w B b n f) (hf : ∀ j, j < n → 0 ≤ f j ∧ f j < 256) (hBw : B ≤ w.heap.size) :
  Calls Tryz.prog 186 #[.pointer (some ⟨b, 0, none⟩)] w fun e w' => e = .returned (.string (mkS n f)) ∧ Below B w w' :=
 Builder_String_any B b (bytesL n f) w (.inr (by rw [← nums_bytes hf]; exact h)) hBw
theorem grow_run (B b n : Nat) (w : World) (hB : B ≤ b) (hbk : w.heap[b]? = some (.cells #[.pointer none, .slice none 0 0] 211 (0, 0))) (hBw : B ≤ w.heap.size) (hn : n ≤ 281474976710656) :
  Calls Tryz.prog 182 #[.pointer (some ⟨b, 0, none⟩), .int .i64 n] w fun e w' => e = .returned (.tuple #[]) ∧ Bld w' B b 0 (fun _ => 0) ∧ Below B w w' := Builder_Grow_fresh B b n w hB hbk hBw hn
end Go.Proofs.YthghcjepdhkfdaaGreatDoor

