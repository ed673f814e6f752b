/-
  Own text. The document's answer for blake: turned words, the beginnings, the orders.
-/
import Derived.Test.YthghcjepdhkfdaaGreatDoorJM1
import Derived.Tactics
import Derived.Test.YthghcjepdhkfdaaGreatDoorProg
import Derived.WalkKit
import Derived.WalkSpells
import Derived.WalkLawsBesides
import Derived.Laws.Externs
import Derived.Laws.MathBits
import Derived.Deep.QuietTactic
import Derived.BigQuiet
import Derived.Laws.Bits64b
import Derived.Deep.RegionWith
import Derived.BigRegion
import Derived.Shelf.Spec.BitsCarry
import Derived.Test.YthghcjepdhkfdaaGreatDoorRows
import Derived.Test.YthghcjepdhkfdaaGreatDoorTie
import Derived.Test.YthghcjepdhkfdaaGreatDoorCards
import Derived.ProofKit
import Derived.LaidMore
import Derived.OpenShut
import Derived.Stop.Joined
import Derived.SevenTiedAt
import Derived.Deep.DeepHandedRow
import Derived.Lib.LaidTab
import Derived.Deep.OwnRows
namespace Go.Proofs.YthghcjepdhkfdaaGreatDoor
open Go.RowKit Go.Proofs
set_option maxRecDepth 100000
def rotd (x : Int) (n : Nat) : Int := rotw x (32 - n)
theorem rotd_w {x : Int} (n : Nat) (hx : W32 x) : W32 (rotd x n) := rotw_w _ hx
def bgn (i : Nat) : Int := [1779033703, 3144134277, 1013904242, 2773480762, 1359893119, 2600822924, 528734635, 1541459225].getD i 0
theorem bgn_w (i : Nat) : W32 (bgn i) := by
 unfold bgn W32
 by_cases h : i < 8
 ·have : ∀ i, i < 8 → 0 ≤ bgn i ∧ bgn i < 4294967296 := by decide +kernel
  exact this i h
 ·rw [List.getD_eq_getElem?_getD, List.getElem?_eq_none (by simp; omega)]
  decide
def ordL : List (List Nat) := [
 [0, 1, 2, 3, 4, 5, 6, 7, 8, 9, 10, 11, 12, 13, 14, 15],
 [14, 10, 4, 8, 9, 15, 13, 6, 1, 12, 0, 2, 11, 7, 5, 3],
 [11, 8, 12, 0, 5, 2, 15, 13, 10, 14, 3, 6, 7, 1, 9, 4],
 [7, 9, 3, 1, 13, 12, 11, 14, 2, 6, 5, 10, 4, 0, 15, 8],
 [9, 0, 5, 7, 2, 4, 10, 15, 14, 1, 11, 12, 6, 8, 3, 13],
 [2, 12, 6, 10, 0, 11, 8, 3, 4, 13, 7, 5, 15, 14, 1, 9],
 [12, 5, 1, 15, 14, 13, 4, 10, 0, 7, 6, 3, 9, 2, 8, 11],
 [13, 11, 7, 14, 12, 1, 3, 9, 5, 0, 15, 4, 8, 6, 2, 10],
 [6, 15, 14, 9, 11, 3, 0, 8, 12, 2, 13, 7, 1, 4, 10, 5],
 [10, 2, 8, 4, 7, 6, 1, 5, 15, 11, 9, 14, 3, 12, 13, 0]]
def ord (s i : Nat) : Nat := (ordL.getD s []).getD i 0
def ordI (s i : Nat) : Int := (ord s i : Int)
theorem ord_lt : ∀ s, s < 10 → ∀ i, i < 16 → ord s i < 16 := by decide +kernel
end Go.Proofs.YthghcjepdhkfdaaGreatDoor

/-
  Own text. What mix of the document's answer for blake does.
-/
namespace Go.Proofs.YthghcjepdhkfdaaGreatDoor
open Go.RowKit Go.Proofs
set_option maxRecDepth 100000
def mixR (s : Nat → Int) (a b c d : Nat) (x y : Int) : Nat → Int :=
 let s1 := upd s a (addw (addw (s a) (s b)) x)
 let s2 := upd s1 d (rotd (xorw (s1 d) (s1 a)) 16)
 let s3 := upd s2 c (addw (s2 c) (s2 d))
 let s4 := upd s3 b (rotd (xorw (s3 b) (s3 c)) 12)
 let s5 := upd s4 a (addw (addw (s4 a) (s4 b)) y)
 let s6 := upd s5 d (rotd (xorw (s5 d) (s5 a)) 8)
 let s7 := upd s6 c (addw (s6 c) (s6 d))
 upd s7 b (rotd (xorw (s7 b) (s7 c)) 7)
end Go.Proofs.YthghcjepdhkfdaaGreatDoor

/-
  Own text. A region that leaves its order open, cut in two: behind the first m operations, whatever their order, the others come one by one. No program is named here.
-/
namespace Go.Proofs.YthghcjepdhkfdaaGreatDoor
open Go
section
variable {P : Program} {ops : Array Oper} {Q : Exit → Act → World → Prop}
def waits (o : Oper) (j : Nat) : Bool := o.after.any (fun e => Region.binds .any e && e.on == j)
end
end Go.Proofs.YthghcjepdhkfdaaGreatDoor

/-
  Own text. Numbers that stand for places; steps over them.
-/
namespace Go.Proofs.YthghcjepdhkfdaaGreatDoor
open Go.RowKit Go.Proofs
set_option maxRecDepth 100000
theorem exec_addN {a : Act} {o : Oper} {w : World} {x y : Operand} (ho : o.op = .binOp .add 3 x y 3) {m n : Nat} (hx : a.eval x = .int .i64 (m : Int)) (hy : a.eval y = .int .i64 (n : Int)) (h : m + n < 9223372036854775808) : (execOp a.eval o).run Tryz.prog w = .ok (.value (.int .i64 ((m + n : Nat) : Int))) w := by
 have e : (m : Int) + (n : Int) = ((m + n : Nat) : Int) := by simp
 rw [← e]
 exact exec_add ho hx hy (by omega) (by omega)
def bwd (s : Nat → Int) (i : Nat) : Int := s (4 * i) + 256 * s (4 * i + 1) + 65536 * s (4 * i + 2) + 16777216 * s (4 * i + 3)
def colB (m : Nat → Int) (s : Nat) (v : Nat → Int) : Nat → Nat → Int
 | 0 => v
 | k + 1 => mixR (colB m s v k) k (4 + k) (8 + k) (12 + k) (m (ord s (2 * k))) (m (ord s (2 * k + 1)))
def diaB (m : Nat → Int) (s : Nat) (v : Nat → Int) : Nat → Nat → Int
 | 0 => v
 | k + 1 => mixR (diaB m s v k) k (4 + (k + 1) % 4) (8 + (k + 2) % 4) (12 + (k + 3) % 4) (m (ord s (8 + 2 * k))) (m (ord s (9 + 2 * k)))
def tenB (m : Nat → Int) (v : Nat → Int) : Nat → Nat → Int
 | 0 => v
 | k + 1 => diaB m k (colB m k (tenB m v k) 4) 4
def begV (h : Nat → Int) (t : Int) (last : Bool) (i : Nat) : Int :=
 if i < 8 then h i else if i = 12 then xorw (bgn 4) (t % 4294967296) else if i = 13 then xorw (bgn 5) (t / 4294967296) else if i = 14 ∧ last = true then xorw (bgn 6) 4294967295 else bgn (i - 8)
def takeF (h s : Nat → Int) (t : Int) (last : Bool) (i : Nat) : Int := xorw (xorw (h i) (tenB (bwd s) (begV h t last) 10 i)) (tenB (bwd s) (begV h t last) 10 (i + 8))
end Go.Proofs.YthghcjepdhkfdaaGreatDoor

/-
  Own text. The tables of package blake in memory; what bits.RotateLeft32 and mixed give.
-/
namespace Go.Proofs.YthghcjepdhkfdaaGreatDoor
open Go.RowKit Go.Proofs
set_option maxRecDepth 100000
structure Tabs (w : World) : Prop where
 beg : ∀ i, i < 8 → w.cell? ⟨1, i, none⟩ = some (.int .u32 (bgn i))
 ord : ∀ s, s < 10 → ∀ i, i < 16 → w.cell? ⟨2, s * 16 + i, none⟩ = some (.int .u8 (ordI s i))
theorem Tabs.two {w : World} (h : Tabs w) : 3 ≤ w.heap.size := by
 have h0 : 1 < w.heap.size := World.block_lt_of_cell? w _ (h.beg 0 (by decide))
 have h1 : 2 < w.heap.size := World.block_lt_of_cell? w _ (h.ord 0 (by decide) 0 (by decide))
 omega
theorem Tabs.block {w w' : World} (h : Tabs w) (h0 : w'.heap[1]? = w.heap[1]?) (h1 : w'.heap[2]? = w.heap[2]?) : Tabs w' :=
 ⟨fun i hi => (World.cell?_of_block (w := w) h0).trans (h.beg i hi), fun s hs i hi => (World.cell?_of_block (w := w) h1).trans (h.ord s hs i hi)⟩
theorem Tabs.below {B : Nat} {w w' : World} (h : Tabs w) (hb : Below B w w') (hB : 3 ≤ B) : Tabs w' := h.block (hb.block 1 (by omega)) (hb.block 2 (by omega))
theorem Tabs.kept {w w' : World} (h : Tabs w) (hb : Below w.heap.size w w') : Tabs w' := h.below hb h.two
theorem Tabs.touch {b : Nat} {w w' : World} (h : Tabs w) (ht : Touch (fun x => x = b) w w') (hb : 3 ≤ b) : Tabs w' := by
 have := h.two
 exact h.block (ht.block 1 (by omega) (by omega)) (ht.block 2 (by omega) (by omega))
theorem Tabs.alloc {w : World} (h : Tabs w) (o : Obj) : Tabs (w.alloc o) := h.kept ((Below.refl _ w).alloc (Nat.le_refl _) o)
theorem rotn_run (x : Int) (n : Nat) (w : World) (hx : W32 x) (hn : n = 7 ∨ n = 8 ∨ n = 12 ∨ n = 16) :
  Calls Tryz.prog 226 #[.int .u32 x, .int .i64 (-(n : Int))] w fun e w' => e = .returned (.int .u32 (rotd x n)) ∧ w' = w := by
 have key : ∀ (m : Nat) (p q : Int), m = 32 - n → p = ((2 ^ m : Nat) : Int) → q = ((2 ^ (32 - m) : Nat) : Int) → bits .or .u32 (x * p % 4294967296) (x / q) = rotd x n := fun m p q hm hp hq => by subst hm; exact or_rotw x _ hx p q hp hq
 unfold W32 at hx
 go_enter Tryz.func226, Tryz.ntmps226
 rcases hn with rfl | rfl | rfl | rfl
 ·have e1 : bits .and .u64 (IntKind.u64.wrap (-7)) 31 = 25 := by decide
  have e2 := key 25 33554432 128 (by decide) (by decide) (by decide)
  go_wp2
  go_ret
  exact ⟨rfl, rfl⟩
 ·have e1 : bits .and .u64 (IntKind.u64.wrap (-8)) 31 = 24 := by decide
  have e2 := key 24 16777216 256 (by decide) (by decide) (by decide)
  go_wp2
  go_ret
  exact ⟨rfl, rfl⟩
 ·have e1 : bits .and .u64 (IntKind.u64.wrap (-12)) 31 = 20 := by decide
  have e2 := key 20 1048576 4096 (by decide) (by decide) (by decide)
  go_wp2
  go_ret
  exact ⟨rfl, rfl⟩
 ·have e1 : bits .and .u64 (IntKind.u64.wrap (-16)) 31 = 16 := by decide
  have e2 := key 16 65536 65536 (by decide) (by decide) (by decide)
  go_wp2
  go_ret
  exact ⟨rfl, rfl⟩
theorem addw_three (a b x : Int) : addw (addw a b) x = addw a (addw b x) := by unfold addw; omega
def mixQ (q : Q4w) (x y : Int) : Q4w :=
 let a1 := addw q.a (addw q.b x)
 let d1 := rotd (xorw q.d a1) 16
 let c1 := addw q.c d1
 let b1 := rotd (xorw q.b c1) 12
 let a2 := addw a1 (addw b1 y)
 let d2 := rotd (xorw d1 a2) 8
 let c2 := addw c1 d2
 ⟨a2, rotd (xorw b1 c2) 7, c2, d2⟩
theorem mixed_run (a b c d x y : Int) (w : World) (hb : W32 b) (hd : W32 d) :
  Calls Tryz.prog 225 #[.int .u32 a, .int .u32 b, .int .u32 c, .int .u32 d, .int .u32 x, .int .u32 y] w fun e w' =>
   e = .returned (.tuple #[.int .u32 (mixQ ⟨a, b, c, d⟩ x y).a, .int .u32 (mixQ ⟨a, b, c, d⟩ x y).b, .int .u32 (mixQ ⟨a, b, c, d⟩ x y).c, .int .u32 (mixQ ⟨a, b, c, d⟩ x y).d]) ∧ w' = w := by
 unfold mixQ
 dsimp only
 obtain ⟨a0, h0⟩ : ∃ z, addw b x = z := ⟨_, rfl⟩
 rw [h0]
 obtain ⟨a1, h1⟩ : ∃ z, addw a a0 = z := ⟨_, rfl⟩
 rw [h1]
 have ha1 := h1 ▸ addw_w a a0
 obtain ⟨x1, g1⟩ : ∃ z, xorw d a1 = z := ⟨_, rfl⟩
 rw [g1]
 have hx1 := g1 ▸ xorw_w hd ha1
 rw [← xor_u32 hd ha1] at g1
 obtain ⟨d1, k1⟩ : ∃ z, rotd x1 16 = z := ⟨_, rfl⟩
 rw [k1]
 have hd1 := k1 ▸ rotd_w 16 hx1
 obtain ⟨c1, h2⟩ : ∃ z, addw c d1 = z := ⟨_, rfl⟩
 rw [h2]
 have hc1 := h2 ▸ addw_w c d1
 obtain ⟨x2, g2⟩ : ∃ z, xorw b c1 = z := ⟨_, rfl⟩
 rw [g2]
 have hx2 := g2 ▸ xorw_w hb hc1
 rw [← xor_u32 hb hc1] at g2
 obtain ⟨b1, k2⟩ : ∃ z, rotd x2 12 = z := ⟨_, rfl⟩
 rw [k2]
 have hb1 := k2 ▸ rotd_w 12 hx2
 obtain ⟨b0, h30⟩ : ∃ z, addw b1 y = z := ⟨_, rfl⟩
 rw [h30]
 obtain ⟨a2, h3⟩ : ∃ z, addw a1 b0 = z := ⟨_, rfl⟩
 rw [h3]
 have ha2 := h3 ▸ addw_w a1 b0
 obtain ⟨x3, g3⟩ : ∃ z, xorw d1 a2 = z := ⟨_, rfl⟩
 rw [g3]
 have hx3 := g3 ▸ xorw_w hd1 ha2
 rw [← xor_u32 hd1 ha2] at g3
 obtain ⟨d2, k3⟩ : ∃ z, rotd x3 8 = z := ⟨_, rfl⟩
 rw [k3]
 have hd2 := k3 ▸ rotd_w 8 hx3
 obtain ⟨c2, h4⟩ : ∃ z, addw c1 d2 = z := ⟨_, rfl⟩
 rw [h4]
 have hc2 := h4 ▸ addw_w c1 d2
 obtain ⟨x4, g4⟩ : ∃ z, xorw b1 c2 = z := ⟨_, rfl⟩
 rw [g4]
 have hx4 := g4 ▸ xorw_w hb1 hc2
 rw [← xor_u32 hb1 hc2] at g4
 obtain ⟨b2, k4⟩ : ∃ z, rotd x4 7 = z := ⟨_, rfl⟩
 rw [k4]
 unfold addw at h0 h1 h2 h30 h3 h4
 have r1 : Calls Tryz.prog 226 #[.int .u32 x1, .int .i64 (-16)] w fun e w' => e = .returned (.int .u32 (rotd x1 16)) ∧ w' = w := rotn_run x1 16 w hx1 (by decide)
 have r2 : Calls Tryz.prog 226 #[.int .u32 x2, .int .i64 (-12)] w fun e w' => e = .returned (.int .u32 (rotd x2 12)) ∧ w' = w := rotn_run x2 12 w hx2 (by decide)
 have r3 : Calls Tryz.prog 226 #[.int .u32 x3, .int .i64 (-8)] w fun e w' => e = .returned (.int .u32 (rotd x3 8)) ∧ w' = w := rotn_run x3 8 w hx3 (by decide)
 have r4 : Calls Tryz.prog 226 #[.int .u32 x4, .int .i64 (-7)] w fun e w' => e = .returned (.int .u32 (rotd x4 7)) ∧ w' = w := rotn_run x4 7 w hx4 (by decide)
 rw [k1] at r1; rw [k2] at r2; rw [k3] at r3; rw [k4] at r4
 clear k1 k2 k3 k4
 unfold W32 at *
 go_enter Tryz.func225, Tryz.ntmps225
 go_wp2_with fail
 refine r1.mono ?_
 rintro e w1 ⟨rfl, rfl⟩
 go_wp2_with fail
 refine r2.mono ?_
 rintro e w2 ⟨rfl, rfl⟩
 go_wp2_with fail
 refine r3.mono ?_
 rintro e w3 ⟨rfl, rfl⟩
 go_wp2_with fail
 refine r4.mono ?_
 rintro e w4 ⟨rfl, rfl⟩
 go_wp2_with fail
 exact bodyPost_ret (v := .tuple #[.int .u32 a2, .int .u32 b2, .int .u32 c2, .int .u32 d2]) (by simp [results, Tryz.results225, go_sem]) rfl ⟨rfl, rfl⟩
def mrow (s : Nat → Int) (a b c d : Nat) (x y : Int) : Nat → Int :=
 upd (upd (upd (upd s a (mixQ ⟨s a, s b, s c, s d⟩ x y).a) b (mixQ ⟨s a, s b, s c, s d⟩ x y).b) c (mixQ ⟨s a, s b, s c, s d⟩ x y).c) d (mixQ ⟨s a, s b, s c, s d⟩ x y).d
theorem mixR_eq (s : Nat → Int) {a b c d : Nat} (x y : Int) (h1 : a ≠ b) (h2 : a ≠ c) (h3 : a ≠ d) (h4 : b ≠ c) (h5 : b ≠ d) (h6 : c ≠ d) : mixR s a b c d x y = mrow s a b c d x y := by
 funext i
 simp only [mixR, mrow, mixQ, upd]
 have h1' := Ne.symm h1
 have h2' := Ne.symm h2
 have h3' := Ne.symm h3
 have h4' := Ne.symm h4
 have h5' := Ne.symm h5
 have h6' := Ne.symm h6
 simp only [if_pos, if_neg h1, if_neg h2, if_neg h3, if_neg h4, if_neg h5, if_neg h6, if_neg h1', if_neg h2', if_neg h3', if_neg h4', if_neg h5', if_neg h6']
 by_cases ed : i = d
 ·subst ed; simp [h5', h6', addw_three]
 ·by_cases ec : i = c
  ·subst ec; simp [h4', h6, addw_three]
  ·by_cases eb : i = b
   ·subst eb; simp [h4, h5, addw_three]
   ·by_cases ea : i = a
    ·subst ea; simp [eb, ec, ed, addw_three]
    ·simp [ea, eb, ec, ed]
theorem mrow_w {n : Nat} {s : Nat → Int} {a b c d : Nat} {x y : Int} (h : ∀ i, i < n → W32 (s i)) (hb : b < n) (hd : d < n) : ∀ i, i < n → W32 (mrow s a b c d x y i) := by
 have wb := h b hb
 have wd := h d hd
 refine w32_upd (w32_upd (w32_upd (w32_upd h ?_) ?_) ?_) ?_
 ·exact addw_w _ _
 ·exact rotd_w 7 (xorw_w (rotd_w 12 (xorw_w wb (addw_w _ _))) (addw_w _ _))
 ·exact addw_w _ _
 ·exact rotd_w 8 (xorw_w (rotd_w 16 (xorw_w wd (addw_w _ _))) (addw_w _ _))
end Go.Proofs.YthghcjepdhkfdaaGreatDoor

/-
  Own text. The numbers beneath the words of package field: words of 64 bits, carries, four words as one number, the rest by 2^255 - 19. No program is named here.
-/
namespace Go.Proofs.YthghcjepdhkfdaaGreatDoor.Fld
def U64 (x : Int) : Prop := 0 ≤ x ∧ x < 18446744073709551616
def Bit (c : Int) : Prop := c = 0 ∨ c = 1
def Sum3 (x y c lo hi : Int) : Prop := U64 lo ∧ Bit hi ∧ lo + 18446744073709551616 * hi = x + y + c
theorem Sum3.lo {x y c lo hi : Int} (h : Sum3 x y c lo hi) : U64 lo := h.1
theorem Sum3.hi {x y c lo hi : Int} (h : Sum3 x y c lo hi) : Bit hi := h.2.1
theorem Bit.u64 {c : Int} (h : Bit c) : U64 c := by unfold Bit at h; unfold U64; omega
theorem bit0 : Bit 0 := Or.inl rfl
theorem u64_0 : U64 0 := bit0.u64
def V4 (a b c d : Int) : Int := a + 18446744073709551616 * b + 340282366920938463463374607431768211456 * c + 6277101735386680763835789423207666416102355444464034512896 * d
def W256 : Int := 115792089237316195423570985008687907853269984665640564039457584007913129639936
def P255 : Int := 57896044618658097711785492504343953926634992332820282019728792003956564819949
theorem V4_range {a b c d : Int} (ha : U64 a) (hb : U64 b) (hc : U64 c) (hd : U64 d) : 0 ≤ V4 a b c d ∧ V4 a b c d < W256 := by
 unfold U64 at ha hb hc hd; unfold V4 W256; omega
theorem plusWord_num {x0 x1 x2 x3 n y0 y1 y2 y3 c0 c1 c2 c3 : Int} (s0 : Sum3 x0 n 0 y0 c0) (s1 : Sum3 x1 c0 0 y1 c1) (s2 : Sum3 x2 c1 0 y2 c2) (s3 : Sum3 x3 c2 0 y3 c3) :
  V4 y0 y1 y2 y3 + W256 * c3 = V4 x0 x1 x2 x3 + n := by
 unfold Sum3 at s0 s1 s2 s3
 unfold V4 W256
 omega
theorem fold_num {X Y Z a b c : Int} (hX : 0 ≤ X ∧ X < W256) (hY : 0 ≤ Y ∧ Y < W256) (hZ : 0 ≤ Z ∧ Z < W256) (hc0 : 0 ≤ c) (hc : c ≤ 38) (ha : Bit a)
  (h1 : Y + W256 * a = X + 38 * c) (h2 : Z + W256 * b = Y + 38 * a) : ∃ k : Int, Z = X + W256 * c + k * P255 := by
 unfold W256 P255 at *
 unfold Bit at ha
 rcases ha with rfl | rfl
 ·exact ⟨-2 * c, by omega⟩
 ·exact ⟨-2 * c - 2, by omega⟩
theorem least_core {A R Z Y t u v a b c : Int} (hA : 0 ≤ A ∧ A < 57896044618658097711785492504343953926634992332820282019728792003956564819968) (hR : 0 ≤ R ∧ R < 57896044618658097711785492504343953926634992332820282019728792003956564819968)
  (hZ : 0 ≤ Z ∧ Z < 57896044618658097711785492504343953926634992332820282019728792003956564819968) (hY : 0 ≤ Y) (ha : Bit a) (ht : Bit t) (hu : Bit u) (hv : Bit v) (hb : Bit b) (hc : Bit c)
  (h1 : Y + W256 * a = A + 19 * t) (h2 : R + 57896044618658097711785492504343953926634992332820282019728792003956564819968 * u + W256 * b = Y + 19)
  (h3 : Z + 57896044618658097711785492504343953926634992332820282019728792003956564819968 * v + W256 * c = Y + 19 * u) :
  Z + P255 * (t + u) = A + 57896044618658097711785492504343953926634992332820282019728792003956564819968 * t ∧ 0 ≤ Z ∧ Z < P255 := by
 unfold W256 P255 at *
 unfold Bit at *
 have ea : a = 0 := by omega
 subst ea
 have eb : b = 0 := by omega
 subst eb
 have ec : c = 0 := by omega
 subst ec
 rcases hu with rfl | rfl
 ·have ev : v = 0 := by omega
  subst ev
  exact ⟨by omega, by omega, by omega⟩
 ·have ev : v = 1 := by omega
  subst ev
  exact ⟨by omega, by omega, by omega⟩
theorem top_bit {x : Int} (h : U64 x) : Bit (x / 9223372036854775808) := by unfold U64 at h; unfold Bit; omega
theorem low_part {a b c d : Int} (ha : U64 a) (hb : U64 b) (hc : U64 c) : 0 ≤ V4 a b c (d % 9223372036854775808) ∧ V4 a b c (d % 9223372036854775808) < 57896044618658097711785492504343953926634992332820282019728792003956564819968 := by
 unfold U64 V4 at *
 have : 0 ≤ d % 9223372036854775808 ∧ d % 9223372036854775808 < 9223372036854775808 := by omega
 omega
theorem split_top (a b c d : Int) : V4 a b c d = V4 a b c (d % 9223372036854775808) + 57896044618658097711785492504343953926634992332820282019728792003956564819968 * (d / 9223372036854775808) := by
 unfold V4
 have : d = d % 9223372036854775808 + 9223372036854775808 * (d / 9223372036854775808) := by omega
 omega
theorem least_num {x0 x1 x2 x3 y0 y1 y2 y3 a r0 r1 r2 r3 b z0 z1 z2 z3 c : Int} (hx0 : U64 x0) (hx1 : U64 x1) (hx2 : U64 x2) (hx3 : U64 x3)
  (hy0 : U64 y0) (hy1 : U64 y1) (hy2 : U64 y2) (hy3 : U64 y3) (hr0 : U64 r0) (hr1 : U64 r1) (hr2 : U64 r2) (hr3 : U64 r3) (hz0 : U64 z0) (hz1 : U64 z1) (hz2 : U64 z2) (hz3 : U64 z3) (ha : Bit a) (hb : Bit b) (hc : Bit c)
  (h1 : V4 y0 y1 y2 y3 + W256 * a = V4 x0 x1 x2 (x3 % 9223372036854775808) + 19 * (x3 / 9223372036854775808))
  (h2 : V4 r0 r1 r2 r3 + W256 * b = V4 y0 y1 y2 y3 + 19)
  (h3 : V4 z0 z1 z2 z3 + W256 * c = V4 y0 y1 y2 y3 + 19 * (r3 / 9223372036854775808)) :
  V4 z0 z1 z2 (z3 % 9223372036854775808) = V4 x0 x1 x2 x3 % P255 := by
 rw [split_top r0 r1 r2 r3] at h2
 rw [split_top z0 z1 z2 z3] at h3
 obtain ⟨e, l1, l2⟩ := least_core (low_part hx0 hx1 hx2) (low_part hr0 hr1 hr2) (low_part hz0 hz1 hz2) (V4_range hy0 hy1 hy2 hy3).1 ha (top_bit hx3) (top_bit hr3) (top_bit hz3) hb hc h1 h2 h3
 rw [split_top x0 x1 x2 x3, ← e, Int.add_mul_emod_self_left, Int.emod_eq_of_lt l1 l2]
end Go.Proofs.YthghcjepdhkfdaaGreatDoor.Fld

/-
  Own text. What plusWord, fold and least of package field answer, for every four words: contracts over the translation.
-/
namespace Go.Proofs.YthghcjepdhkfdaaGreatDoor.Fld
open Go.RowKit Go.Proofs
set_option maxRecDepth 100000
theorem and_low63 (z : Int) (h0 : 0 ≤ z) (h1 : z < 18446744073709551616) : bits .and .u64 z 9223372036854775807 = z % 9223372036854775808 := by go_bits2
theorem top19 (z : Int) (h : U64 z) : IntKind.u64.wrap (19 * (z / 9223372036854775808)) = 19 * (z / 9223372036854775808) := by
 unfold U64 at h; rw [IntKind.wrap_u64]; omega
theorem u64_mod63 (z : Int) : U64 (z % 9223372036854775808) := by unfold U64; omega
theorem u64_top19 {z : Int} (h : U64 z) : U64 (19 * (z / 9223372036854775808)) := by unfold U64 at *; omega
theorem u64_19 : U64 19 := by unfold U64; omega
theorem Hid.mk {p : Prop} (h : p) : Hid p := h
theorem add64_run (x y c : Int) (hx : U64 x) (hy : U64 y) (hc : Bit c) (w : World) :
  ∃ lo hi, Sum3 x y c lo hi ∧ (callFunc 196 #[.int .u64 x, .int .u64 y, .int .u64 c]).run Tryz.prog w =
   .ok (.value (.tuple #[.int .u64 lo, .int .u64 hi])) w := by
 unfold U64 at hx hy
 unfold Bit at hc
 refine ⟨(x + y + c) % 18446744073709551616, (x + y + c) / 18446744073709551616, ⟨⟨?_, ?_⟩, ?_, ?_⟩, ?_⟩
 ·omega
 ·omega
 ·unfold Bit; omega
 ·omega
 rw [run_callFunc_extern Tryz.func196 (by kernel_rfl) (by kernel_rfl) (by kernel_rfl) (e := add64Entry) (by kernel_rfl), run_add64 x y c (by omega) (by omega) (by omega) (by omega)]
 rfl
theorem add64_upon {o : Oper} {a : Act} {next : Act → World → Prop} {Q : Exit → Act → World → Prop} {x y c : Int} {w : World}
  (hx : U64 x) (hy : U64 y) (hc : Bit c) (h : ∀ lo hi, Sum3 x y c lo hi → U64 lo → U64 hi → Bit hi → next (a.put o.dst (.tuple #[.int .u64 lo, .int .u64 hi])) w) :
  o.upon Tryz.prog a next Q ((callFunc 196 #[.int .u64 x, .int .u64 y, .int .u64 c]).run Tryz.prog w) := by
 obtain ⟨lo, hi, hs, e⟩ := add64_run x y c hx hy hc w
 rw [e]
 exact h lo hi hs hs.lo hs.hi.u64 hs.hi
set_option maxHeartbeats 1000000 in
theorem plusWord_any (x0 x1 x2 x3 n : Int) (w : World) (h0 : U64 x0) (h1 : U64 x1) (h2 : U64 x2) (h3 : U64 x3) (hn : U64 n) :
  Calls Tryz.prog 170 #[.agg #[.int .u64 x0, .int .u64 x1, .int .u64 x2, .int .u64 x3], .int .u64 n] w fun e w' =>
   ∃ y0 y1 y2 y3 c, U64 y0 ∧ U64 y1 ∧ U64 y2 ∧ U64 y3 ∧ Bit c ∧ V4 y0 y1 y2 y3 + W256 * c = V4 x0 x1 x2 x3 + n ∧
    e = .returned (.tuple #[.agg #[.int .u64 y0, .int .u64 y1, .int .u64 y2, .int .u64 y3], .int .u64 c]) ∧
    w' = (w.alloc (.cells #[.int .u64 y0, .int .u64 y1, .int .u64 y2, .int .u64 y3] 142)).alloc (.cells #[.int .u64 y0, .int .u64 y1, .int .u64 y2, .int .u64 y3] 142) := by
 have hb0 := bit0
 go_enter Tryz.func170, Tryz.ntmps170
 go_wp2
 refine wp_loop_rounds 5 ?_
 rw [rounds_succ]
 go_wp2
 refine add64_upon (by assumption) (by assumption) (by assumption) ?_
 intro y0 c0 s0 l0 k0 b0
 go_wp2
 rw [rounds_succ]
 go_wp2
 refine add64_upon (by assumption) (by assumption) (by assumption) ?_
 intro y1 c1 s1 l1 k1 b1
 go_wp2
 rw [rounds_succ]
 go_wp2
 refine add64_upon (by assumption) (by assumption) (by assumption) ?_
 intro y2 c2 s2 l2 k2 b2
 go_wp2
 rw [rounds_succ]
 go_wp2
 refine add64_upon (by assumption) (by assumption) (by assumption) ?_
 intro y3 c3 s3 l3 k3 b3
 go_wp2
 rw [rounds_succ]
 go_wp2
 exact bodyPost_ret (v := .tuple #[.agg #[.int .u64 y0, .int .u64 y1, .int .u64 y2, .int .u64 y3], .int .u64 c3]) (by simp [results, Tryz.results170, go_sem]) rfl
  ⟨y0, y1, y2, y3, c3, l0, l1, l2, l3, b3, plusWord_num s0 s1 s2 s3, rfl, rfl⟩
set_option maxHeartbeats 1000000 in
theorem fold_any (x0 x1 x2 x3 n : Int) (w : World) (h0 : U64 x0) (h1 : U64 x1) (h2 : U64 x2) (h3 : U64 x3) (hn : 0 ≤ n) (hn2 : n ≤ 38) :
  Calls Tryz.prog 169 #[.agg #[.int .u64 x0, .int .u64 x1, .int .u64 x2, .int .u64 x3], .int .u64 n] w fun e w' =>
   ∃ y0 y1 y2 y3, U64 y0 ∧ U64 y1 ∧ U64 y2 ∧ U64 y3 ∧ (∃ k : Int, V4 y0 y1 y2 y3 = V4 x0 x1 x2 x3 + W256 * n + k * P255) ∧
    e = .returned (.agg #[.int .u64 y0, .int .u64 y1, .int .u64 y2, .int .u64 y3]) ∧ Below w.heap.size w w' := by
 go_enter Tryz.func169, Tryz.ntmps169
 go_wp2_with fail
 refine (plusWord_any _ _ _ _ _ _ h0 h1 h2 h3 (by unfold U64; omega)).mono ?_
 rintro e w1 ⟨y0, y1, y2, y3, a, hy0, hy1, hy2, hy3, ha, e1, rfl, rfl⟩
 have E1 : Hid (V4 y0 y1 y2 y3 + W256 * a = V4 x0 x1 x2 x3 + 38 * n) := e1
 clear e1
 have ha0 : 0 ≤ a := by unfold Bit at ha; omega
 have ha1 : a ≤ 1 := by unfold Bit at ha; omega
 go_wp2_with fail
 refine (plusWord_any _ _ _ _ _ _ hy0 hy1 hy2 hy3 (by unfold U64; omega)).mono ?_
 rintro e w1 ⟨z0, z1, z2, z3, b, hz0, hz1, hz2, hz3, hb, e2, rfl, rfl⟩
 have E2 : Hid (V4 z0 z1 z2 z3 + W256 * b = V4 y0 y1 y2 y3 + 38 * a) := e2
 clear e2
 go_wp2
 refine bodyPost_ret (v := .agg #[.int .u64 z0, .int .u64 z1, .int .u64 z2, .int .u64 z3]) (by simp [results, Tryz.results169, go_sem]) rfl
  ⟨z0, z1, z2, z3, hz0, hz1, hz2, hz3, fold_num (V4_range h0 h1 h2 h3) (V4_range hy0 hy1 hy2 hy3) (V4_range hz0 hz1 hz2 hz3) hn hn2 ha E1.out E2.out, rfl, ?_⟩
 repeat first | exact Below.refl _ _ | refine Below.alloc ?_ (by simp <;> omega) _
set_option maxHeartbeats 1000000 in
theorem least_any (x0 x1 x2 x3 : Int) (w : World) (h0 : U64 x0) (h1 : U64 x1) (h2 : U64 x2) (h3 : U64 x3) :
  Calls Tryz.prog 138 #[.agg #[.int .u64 x0, .int .u64 x1, .int .u64 x2, .int .u64 x3]] w fun e w' =>
   ∃ y0 y1 y2 y3, U64 y0 ∧ U64 y1 ∧ U64 y2 ∧ U64 y3 ∧ V4 y0 y1 y2 y3 = V4 x0 x1 x2 x3 % P255 ∧
    e = .returned (.agg #[.int .u64 y0, .int .u64 y1, .int .u64 y2, .int .u64 y3]) ∧ Below w.heap.size w w' := by
 have m3 := and_low63 x3 h3.1 h3.2
 have t3 := top19 x3 h3
 go_enter Tryz.func138, Tryz.ntmps138
 go_wp2_with fail
 refine (plusWord_any _ _ _ _ _ _ h0 h1 h2 (u64_mod63 x3) (u64_top19 h3)).mono ?_
 rintro e w1 ⟨y0, y1, y2, y3, a, hy0, hy1, hy2, hy3, ha, e1, rfl, rfl⟩
 have E1 := Hid.mk e1
 clear e1
 go_wp2_with fail
 refine (plusWord_any _ _ _ _ _ _ hy0 hy1 hy2 hy3 u64_19).mono ?_
 rintro e w1 ⟨r0, r1, r2, r3, b, hr0, hr1, hr2, hr3, hb, e2, rfl, rfl⟩
 have E2 := Hid.mk e2
 clear e2
 have tr := top19 r3 hr3
 go_wp2_with fail
 refine (plusWord_any _ _ _ _ _ _ hy0 hy1 hy2 hy3 (u64_top19 hr3)).mono ?_
 rintro e w1 ⟨z0, z1, z2, z3, c, hz0, hz1, hz2, hz3, hc, e3, rfl, rfl⟩
 have E3 := Hid.mk e3
 clear e3
 have mz := and_low63 z3 hz3.1 hz3.2
 go_wp2
 refine bodyPost_ret (v := .agg #[.int .u64 z0, .int .u64 z1, .int .u64 z2, .int .u64 (z3 % 9223372036854775808)]) (by simp [results, Tryz.results138, go_sem]) rfl
  ⟨z0, z1, z2, _, hz0, hz1, hz2, u64_mod63 z3, least_num h0 h1 h2 h3 hy0 hy1 hy2 hy3 hr0 hr1 hr2 hr3 hz0 hz1 hz2 hz3 ha hb hc E1.out E2.out E3.out, rfl, ?_⟩
 repeat first | exact Below.refl _ _ | refine Below.alloc ?_ (by simp <;> omega) _
end Go.Proofs.YthghcjepdhkfdaaGreatDoor.Fld

/-
  Own text. What word, load, putWord and store of package field answer, for every 32 bytes and every four words: contracts over the translation.
-/
namespace Go.Proofs.YthghcjepdhkfdaaGreatDoor.Fld
open Go.RowKit Go.Proofs
set_option maxRecDepth 100000
def Byte (x : Int) : Prop := 0 ≤ x ∧ x < 256
theorem or_shift (a b : Int) (k : Nat) (ha : 0 ≤ a) (hb : 0 ≤ b) (hk : a < 2 ^ k) (hs : a + b * 2 ^ k < 18446744073709551616) :
  bits BinOp.or IntKind.u64 a (b * 2 ^ k) = a + b * 2 ^ k := by
 obtain ⟨A, rfl⟩ := Int.eq_ofNat_of_zero_le ha
 obtain ⟨B, rfl⟩ := Int.eq_ofNat_of_zero_le hb
 have e : ((B : Int) * 2 ^ k) = ((B * 2 ^ k : Nat) : Int) := by rw [Int.natCast_mul, Int.natCast_pow]; rfl
 have hA : A < 2 ^ k := by exact_mod_cast hk
 rw [e] at hs ⊢
 rw [bits_or_u64_nat _ _ (by omega) (by omega), Nat.or_comm, Nat.mul_comm, ← Nat.two_pow_add_eq_or_of_lt hA B]
 omega
theorem wrap_u64_id (z : Int) (h0 : 0 ≤ z) (h1 : z < 18446744073709551616) : IntKind.u64.wrap z = z := by rw [IntKind.wrap_u64]; omega
theorem word_num (x0 x1 x2 x3 x4 x5 x6 x7 : Int) (h0 : Byte x0) (h1 : Byte x1) (h2 : Byte x2) (h3 : Byte x3) (h4 : Byte x4) (h5 : Byte x5) (h6 : Byte x6) (h7 : Byte x7) :
  bits BinOp.or IntKind.u64
   (bits BinOp.or IntKind.u64
    (bits BinOp.or IntKind.u64
     (bits BinOp.or IntKind.u64
      (bits BinOp.or IntKind.u64
       (bits BinOp.or IntKind.u64
        (bits BinOp.or IntKind.u64 (IntKind.u64.wrap x0)
         (IntKind.u64.wrap (IntKind.u64.wrap x1 * 256)))
        (IntKind.u64.wrap (IntKind.u64.wrap x2 * 65536)))
       (IntKind.u64.wrap (IntKind.u64.wrap x3 * 16777216)))
      (IntKind.u64.wrap (IntKind.u64.wrap x4 * 4294967296)))
     (IntKind.u64.wrap (IntKind.u64.wrap x5 * 1099511627776)))
    (IntKind.u64.wrap (IntKind.u64.wrap x6 * 281474976710656)))
   (IntKind.u64.wrap (IntKind.u64.wrap x7 * 72057594037927936)) =
  x0 + x1 * 256 + x2 * 65536 + x3 * 16777216 + x4 * 4294967296 + x5 * 1099511627776 + x6 * 281474976710656 + x7 * 72057594037927936 := by
 unfold Byte at *
 rw [wrap_u64_id x0 (by omega) (by omega), wrap_u64_id x1 (by omega) (by omega), wrap_u64_id x2 (by omega) (by omega), wrap_u64_id x3 (by omega) (by omega),
  wrap_u64_id x4 (by omega) (by omega), wrap_u64_id x5 (by omega) (by omega), wrap_u64_id x6 (by omega) (by omega), wrap_u64_id x7 (by omega) (by omega)]
 rw [wrap_u64_id (x1 * 256) (by omega) (by omega), wrap_u64_id (x2 * 65536) (by omega) (by omega), wrap_u64_id (x3 * 16777216) (by omega) (by omega),
  wrap_u64_id (x4 * 4294967296) (by omega) (by omega), wrap_u64_id (x5 * 1099511627776) (by omega) (by omega), wrap_u64_id (x6 * 281474976710656) (by omega) (by omega), wrap_u64_id (x7 * 72057594037927936) (by omega) (by omega)]
 rw [show bits BinOp.or IntKind.u64 x0 (x1 * 256) = x0 + x1 * 256 from or_shift _ _ 8 (by omega) (by omega) (by omega) (by omega)]
 rw [show bits BinOp.or IntKind.u64 (x0 + x1 * 256) (x2 * 65536) = x0 + x1 * 256 + x2 * 65536 from or_shift _ _ 16 (by omega) (by omega) (by omega) (by omega)]
 rw [show bits BinOp.or IntKind.u64 (x0 + x1 * 256 + x2 * 65536) (x3 * 16777216) = x0 + x1 * 256 + x2 * 65536 + x3 * 16777216 from or_shift _ _ 24 (by omega) (by omega) (by omega) (by omega)]
 rw [show bits BinOp.or IntKind.u64 (x0 + x1 * 256 + x2 * 65536 + x3 * 16777216) (x4 * 4294967296) = x0 + x1 * 256 + x2 * 65536 + x3 * 16777216 + x4 * 4294967296 from or_shift _ _ 32 (by omega) (by omega) (by omega) (by omega)]
 rw [show bits BinOp.or IntKind.u64 (x0 + x1 * 256 + x2 * 65536 + x3 * 16777216 + x4 * 4294967296) (x5 * 1099511627776) = x0 + x1 * 256 + x2 * 65536 + x3 * 16777216 + x4 * 4294967296 + x5 * 1099511627776 from or_shift _ _ 40 (by omega) (by omega) (by omega) (by omega)]
 rw [show bits BinOp.or IntKind.u64 (x0 + x1 * 256 + x2 * 65536 + x3 * 16777216 + x4 * 4294967296 + x5 * 1099511627776) (x6 * 281474976710656) = x0 + x1 * 256 + x2 * 65536 + x3 * 16777216 + x4 * 4294967296 + x5 * 1099511627776 + x6 * 281474976710656 from or_shift _ _ 48 (by omega) (by omega) (by omega) (by omega)]
 exact or_shift _ _ 56 (by omega) (by omega) (by omega) (by omega)
def V8 (x0 x1 x2 x3 x4 x5 x6 x7 : Int) : Int := x0 + x1 * 256 + x2 * 65536 + x3 * 16777216 + x4 * 4294967296 + x5 * 1099511627776 + x6 * 281474976710656 + x7 * 72057594037927936
theorem ret_int {k : IntKind} {a b : Int} (h : a = b) : Ending.returned (.int k a) = .returned (.int k b) := by rw [h]
set_option maxHeartbeats 1000000 in
theorem word_any (b off cap : Nat) (x0 x1 x2 x3 x4 x5 x6 x7 : Int) (w : World) (h0 : Byte x0) (h1 : Byte x1) (h2 : Byte x2) (h3 : Byte x3) (h4 : Byte x4) (h5 : Byte x5) (h6 : Byte x6) (h7 : Byte x7)
  (c0 : w.cell? ⟨b, off, none⟩ = some (.int .u8 x0)) (c1 : w.cell? ⟨b, off + 1, none⟩ = some (.int .u8 x1))
  (c2 : w.cell? ⟨b, off + 2, none⟩ = some (.int .u8 x2)) (c3 : w.cell? ⟨b, off + 3, none⟩ = some (.int .u8 x3))
  (c4 : w.cell? ⟨b, off + 4, none⟩ = some (.int .u8 x4)) (c5 : w.cell? ⟨b, off + 5, none⟩ = some (.int .u8 x5))
  (c6 : w.cell? ⟨b, off + 6, none⟩ = some (.int .u8 x6)) (c7 : w.cell? ⟨b, off + 7, none⟩ = some (.int .u8 x7)) :
  Calls Tryz.prog 164 #[.slice (some ⟨b, off, none⟩) 8 cap] w fun e w' => e = .returned (.int .u64 (V8 x0 x1 x2 x3 x4 x5 x6 x7)) ∧ ∃ n, w' = w.drewN n := by
 go_enter Tryz.func164, Tryz.ntmps164
 go_wp2
 go_quiet (fail)
 go_wp2
 go_ret
 exact ⟨ret_int (word_num x0 x1 x2 x3 x4 x5 x6 x7 h0 h1 h2 h3 h4 h5 h6 h7), _, rfl⟩
end Go.Proofs.YthghcjepdhkfdaaGreatDoor.Fld

/-
  Own text. What load and putWord of package field answer, for every 32 bytes and every word: contracts over the translation.
-/
namespace Go.Proofs.YthghcjepdhkfdaaGreatDoor.Fld
open Go.RowKit Go.Proofs
set_option maxRecDepth 100000
def byt (n : Int) (i : Nat) : Int := n / 256 ^ i % 256
def BA (n : Int) : Array Value := ((List.range 32).map fun i => Value.int .u8 (byt n i)).toArray
theorem BA_size (n : Int) : (BA n).size = 32 := by simp [BA]
theorem BA_get (n : Int) (i : Nat) (h : i < 32) : (BA n)[i]? = some (.int .u8 (byt n i)) := by
 simp [BA, h]
theorem byt_byte (n : Int) (i : Nat) : Byte (byt n i) := by unfold byt Byte; omega
def limb (n : Int) (k : Nat) : Int := n / 256 ^ k % 18446744073709551616
theorem limb_u64 (n : Int) (k : Nat) : U64 (limb n k) := by unfold limb U64; omega
theorem limb_eq (n : Int) (k : Nat) : V8 (byt n k) (byt n (k + 1)) (byt n (k + 2)) (byt n (k + 3)) (byt n (k + 4)) (byt n (k + 5)) (byt n (k + 6)) (byt n (k + 7)) = limb n k := by
 unfold V8 byt limb
 have e : ∀ j : Nat, n / 256 ^ (k + j) = n / 256 ^ k / 256 ^ j := fun j => by rw [Int.pow_add, Int.ediv_ediv_of_nonneg (Int.pow_nonneg (by decide))]
 rw [e 1, e 2, e 3, e 4, e 5, e 6, e 7]
 generalize n / 256 ^ k = z
 simp only [Int.pow_succ, Int.pow_zero, Int.reduceMul, Int.one_mul]
 omega
theorem Below.drewN' {B : Nat} {a w : World} (h : Below B a w) (n : Nat) : Below B a (w.drewN n) := ⟨h.os, h.tape, h.output, h.size, h.block⟩
theorem word_of (n : Int) (b k cap : Nat) (w : World) (hk : k + 8 ≤ 32) (hc : ∀ i, i < 32 → w.cell? ⟨b, i, none⟩ = some (.int .u8 (byt n i))) :
  Calls Tryz.prog 164 #[.slice (some ⟨b, k, none⟩) 8 cap] w fun e w' => e = .returned (.int .u64 (limb n k)) ∧ ∃ m, w' = w.drewN m := by
 rw [← limb_eq]
 exact word_any b k cap _ _ _ _ _ _ _ _ w (byt_byte _ _) (byt_byte _ _) (byt_byte _ _) (byt_byte _ _) (byt_byte _ _) (byt_byte _ _) (byt_byte _ _) (byt_byte _ _)
  (hc _ (by omega)) (hc _ (by omega)) (hc _ (by omega)) (hc _ (by omega)) (hc _ (by omega)) (hc _ (by omega)) (hc _ (by omega)) (hc _ (by omega))
set_option maxHeartbeats 1000000 in
theorem load_any (n : Int) (w : World) :
  Calls Tryz.prog 133 #[.agg (BA n)] w fun e w' => e = .returned (.agg #[.int .u64 (limb n 0), .int .u64 (limb n 8), .int .u64 (limb n 16), .int .u64 (limb n 24)]) ∧ Below w.heap.size w w' := by
 have hsz := BA_size n
 go_enter Tryz.func133, Tryz.ntmps133
 go_wp2
 go_region_with (go_at_call 164; refine (word_of n _ _ _ _ ?_ ?_).mono ?_; omega; exact (fun i hi => (cell_of_row _ _ i _ _ (0, 0) (heap_alloc2_old w _ _)).trans (BA_get n i hi)); rintro e w' ⟨rfl, m, rfl⟩)
 go_wp2
 refine bodyPost_ret (v := .agg #[.int .u64 (limb n 0), .int .u64 (limb n 8), .int .u64 (limb n 16), .int .u64 (limb n 24)]) (by simp [results, Tryz.results133, go_sem]) rfl ⟨rfl, ?_⟩
 repeat first | exact Below.refl _ _ | refine Below.alloc ?_ (by simp <;> omega) _ | refine Below.setCell ?_ (by simp <;> omega) _ | refine Below.drewN' ?_ _
set_option maxHeartbeats 1000000 in
theorem putWord_walk (b off cap : Nat) (x : Int) (v0 v1 v2 v3 v4 v5 v6 v7 : Value) (w : World)
  (c0 : w.cell? ⟨b, off, none⟩ = some v0) (c1 : w.cell? ⟨b, off + 1, none⟩ = some v1)
  (c2 : w.cell? ⟨b, off + 2, none⟩ = some v2) (c3 : w.cell? ⟨b, off + 3, none⟩ = some v3)
  (c4 : w.cell? ⟨b, off + 4, none⟩ = some v4) (c5 : w.cell? ⟨b, off + 5, none⟩ = some v5)
  (c6 : w.cell? ⟨b, off + 6, none⟩ = some v6) (c7 : w.cell? ⟨b, off + 7, none⟩ = some v7)
  (f0 : w.frozen? ⟨b, off, none⟩ = false) (f1 : w.frozen? ⟨b, off + 1, none⟩ = false)
  (f2 : w.frozen? ⟨b, off + 2, none⟩ = false) (f3 : w.frozen? ⟨b, off + 3, none⟩ = false)
  (f4 : w.frozen? ⟨b, off + 4, none⟩ = false) (f5 : w.frozen? ⟨b, off + 5, none⟩ = false)
  (f6 : w.frozen? ⟨b, off + 6, none⟩ = false) (f7 : w.frozen? ⟨b, off + 7, none⟩ = false) :
  Calls Tryz.prog 139 #[.slice (some ⟨b, off, none⟩) 8 cap, .int .u64 x] w fun e w' => e = .returned (.tuple #[]) ∧
   w' = (((((((w.setCell ⟨b, off, none⟩ (.int .u8 (x % 256))).setCell ⟨b, off + 1, none⟩ (.int .u8 (x / 256 % 256))).setCell ⟨b, off + 2, none⟩ (.int .u8 (x / 65536 % 256))).setCell
    ⟨b, off + 3, none⟩ (.int .u8 (x / 16777216 % 256))).setCell ⟨b, off + 4, none⟩ (.int .u8 (x / 4294967296 % 256))).setCell ⟨b, off + 5, none⟩ (.int .u8 (x / 1099511627776 % 256))).setCell
    ⟨b, off + 6, none⟩ (.int .u8 (x / 281474976710656 % 256))).setCell ⟨b, off + 7, none⟩ (.int .u8 (x / 72057594037927936 % 256)) := by
 go_enter Tryz.func139, Tryz.ntmps139
 go_wp2
 go_end0
 exact ⟨rfl, rfl⟩
structure Only (b : Nat) (w w' : World) : Prop where
 os : w'.os = w.os
 tape : w'.tape = w.tape
 output : w'.output = w.output
 size : w'.heap.size = w.heap.size
 block : ∀ k, k ≠ b → w'.heap[k]? = w.heap[k]?
theorem Only.setCell {b : Nat} {w w' : World} (h : Only b w w') (i : Nat) (v : Value) : Only b w (w'.setCell ⟨b, i, none⟩ v) :=
 ⟨h.os, h.tape, h.output, by rw [← h.size]; simp [World.setCell], fun k hk => by rw [Below.heap_setCell _ _ _ _ hk]; exact h.block k hk⟩
theorem Only.refl (b : Nat) (w : World) : Only b w w := ⟨rfl, rfl, rfl, rfl, fun _ _ => rfl⟩
theorem Only.cell {b : Nat} {w w' : World} (h : Only b w w') (k i : Nat) (hk : k ≠ b) : w'.cell? ⟨k, i, none⟩ = w.cell? ⟨k, i, none⟩ := World.cell?_of_block (w := w) (h.block k hk)
theorem Only.below {b B : Nat} {w w' : World} (h : Only b w w') (hb : B ≤ b) : Below B w w' := ⟨h.os, h.tape, h.output, by rw [h.size]; exact Nat.le_refl _, fun k hk => h.block k (by omega)⟩
def put8 (cs : Array Value) (off : Nat) (x : Int) : Array Value :=
 (((((((cs.setIfInBounds off (.int .u8 (x % 256))).setIfInBounds (off + 1) (.int .u8 (x / 256 % 256))).setIfInBounds (off + 2) (.int .u8 (x / 65536 % 256))).setIfInBounds
  (off + 3) (.int .u8 (x / 16777216 % 256))).setIfInBounds (off + 4) (.int .u8 (x / 4294967296 % 256))).setIfInBounds (off + 5) (.int .u8 (x / 1099511627776 % 256))).setIfInBounds
  (off + 6) (.int .u8 (x / 281474976710656 % 256))).setIfInBounds (off + 7) (.int .u8 (x / 72057594037927936 % 256))
theorem put8_size (cs : Array Value) (off : Nat) (x : Int) : (put8 cs off x).size = cs.size := by simp [put8]
theorem putWord_any (b off cap : Nat) (x : Int) (cs : Array Value) (t : TypeId) (w : World) (hg : w.heap[b]? = some (.cells cs t (0, 0))) (ho : off + 8 ≤ cs.size) :
  Calls Tryz.prog 139 #[.slice (some ⟨b, off, none⟩) 8 cap, .int .u64 x] w fun e w' => e = .returned (.tuple #[]) ∧ w'.heap[b]? = some (.cells (put8 cs off x) t (0, 0)) ∧ Only b w w' := by
 have c : ∀ i, i < 8 → ∃ v, w.cell? ⟨b, off + i, none⟩ = some v := fun i hi => ⟨cs[off + i]'(by omega), by rw [cell_of_row w b (off + i) cs t _ hg]; exact Array.getElem?_eq_getElem (by omega)⟩
 have f : ∀ i, w.frozen? ⟨b, i, none⟩ = false := fun i => frozen_of_row w b i cs t hg
 obtain ⟨v0, c0⟩ := c 0 (by omega)
 obtain ⟨v1, c1⟩ := c 1 (by omega)
 obtain ⟨v2, c2⟩ := c 2 (by omega)
 obtain ⟨v3, c3⟩ := c 3 (by omega)
 obtain ⟨v4, c4⟩ := c 4 (by omega)
 obtain ⟨v5, c5⟩ := c 5 (by omega)
 obtain ⟨v6, c6⟩ := c 6 (by omega)
 obtain ⟨v7, c7⟩ := c 7 (by omega)
 refine (putWord_walk b off cap x v0 v1 v2 v3 v4 v5 v6 v7 w c0 c1 c2 c3 c4 c5 c6 c7 (f _) (f _) (f _) (f _) (f _) (f _) (f _) (f _)).mono ?_
 rintro e w' ⟨rfl, rfl⟩
 refine ⟨rfl, ?_, ((((((((Only.refl b w).setCell _ _).setCell _ _).setCell _ _).setCell _ _).setCell _ _).setCell _ _).setCell _ _).setCell _ _⟩
 unfold put8
 exact heap_setCell_same _ b _ _ t _ (heap_setCell_same _ b _ _ t _ (heap_setCell_same _ b _ _ t _ (heap_setCell_same _ b _ _ t _ (heap_setCell_same _ b _ _ t _ (heap_setCell_same _ b _ _ t _ (heap_setCell_same _ b _ _ t _ (heap_setCell_same _ b _ _ t _ hg)))))))
end Go.Proofs.YthghcjepdhkfdaaGreatDoor.Fld

/-
  Own text. What store of package field answers, for every four words: a contract over the translation; and laws for whole rows in whatever world.
-/
namespace Go.Proofs.YthghcjepdhkfdaaGreatDoor.Fld
open Go.RowKit Go.Proofs
set_option maxRecDepth 100000
theorem byt_V4_0 {y0 y1 y2 y3 : Int} (_h0 : U64 y0) (_h1 : U64 y1) (_h2 : U64 y2) (_h3 : U64 y3) : byt (V4 y0 y1 y2 y3) 0 = y0 % 256 := by
 unfold U64 at *; unfold byt V4; omega
theorem byt_V4_1 {y0 y1 y2 y3 : Int} (_h0 : U64 y0) (_h1 : U64 y1) (_h2 : U64 y2) (_h3 : U64 y3) : byt (V4 y0 y1 y2 y3) 1 = y0 / 256 % 256 := by
 unfold U64 at *; unfold byt V4; omega
theorem byt_V4_2 {y0 y1 y2 y3 : Int} (_h0 : U64 y0) (_h1 : U64 y1) (_h2 : U64 y2) (_h3 : U64 y3) : byt (V4 y0 y1 y2 y3) 2 = y0 / 65536 % 256 := by
 unfold U64 at *; unfold byt V4; omega
theorem byt_V4_3 {y0 y1 y2 y3 : Int} (_h0 : U64 y0) (_h1 : U64 y1) (_h2 : U64 y2) (_h3 : U64 y3) : byt (V4 y0 y1 y2 y3) 3 = y0 / 16777216 % 256 := by
 unfold U64 at *; unfold byt V4; omega
theorem byt_V4_4 {y0 y1 y2 y3 : Int} (_h0 : U64 y0) (_h1 : U64 y1) (_h2 : U64 y2) (_h3 : U64 y3) : byt (V4 y0 y1 y2 y3) 4 = y0 / 4294967296 % 256 := by
 unfold U64 at *; unfold byt V4; omega
theorem byt_V4_5 {y0 y1 y2 y3 : Int} (_h0 : U64 y0) (_h1 : U64 y1) (_h2 : U64 y2) (_h3 : U64 y3) : byt (V4 y0 y1 y2 y3) 5 = y0 / 1099511627776 % 256 := by
 unfold U64 at *; unfold byt V4; omega
theorem byt_V4_6 {y0 y1 y2 y3 : Int} (_h0 : U64 y0) (_h1 : U64 y1) (_h2 : U64 y2) (_h3 : U64 y3) : byt (V4 y0 y1 y2 y3) 6 = y0 / 281474976710656 % 256 := by
 unfold U64 at *; unfold byt V4; omega
theorem byt_V4_7 {y0 y1 y2 y3 : Int} (_h0 : U64 y0) (_h1 : U64 y1) (_h2 : U64 y2) (_h3 : U64 y3) : byt (V4 y0 y1 y2 y3) 7 = y0 / 72057594037927936 % 256 := by
 unfold U64 at *; unfold byt V4; omega
theorem byt_V4_8 {y0 y1 y2 y3 : Int} (_h0 : U64 y0) (_h1 : U64 y1) (_h2 : U64 y2) (_h3 : U64 y3) : byt (V4 y0 y1 y2 y3) 8 = y1 % 256 := by
 unfold U64 at *; unfold byt V4; omega
theorem byt_V4_9 {y0 y1 y2 y3 : Int} (_h0 : U64 y0) (_h1 : U64 y1) (_h2 : U64 y2) (_h3 : U64 y3) : byt (V4 y0 y1 y2 y3) 9 = y1 / 256 % 256 := by
 unfold U64 at *; unfold byt V4; omega
theorem byt_V4_10 {y0 y1 y2 y3 : Int} (_h0 : U64 y0) (_h1 : U64 y1) (_h2 : U64 y2) (_h3 : U64 y3) : byt (V4 y0 y1 y2 y3) 10 = y1 / 65536 % 256 := by
 unfold U64 at *; unfold byt V4; omega
theorem byt_V4_11 {y0 y1 y2 y3 : Int} (_h0 : U64 y0) (_h1 : U64 y1) (_h2 : U64 y2) (_h3 : U64 y3) : byt (V4 y0 y1 y2 y3) 11 = y1 / 16777216 % 256 := by
 unfold U64 at *; unfold byt V4; omega
theorem byt_V4_12 {y0 y1 y2 y3 : Int} (_h0 : U64 y0) (_h1 : U64 y1) (_h2 : U64 y2) (_h3 : U64 y3) : byt (V4 y0 y1 y2 y3) 12 = y1 / 4294967296 % 256 := by
 unfold U64 at *; unfold byt V4; omega
theorem byt_V4_13 {y0 y1 y2 y3 : Int} (_h0 : U64 y0) (_h1 : U64 y1) (_h2 : U64 y2) (_h3 : U64 y3) : byt (V4 y0 y1 y2 y3) 13 = y1 / 1099511627776 % 256 := by
 unfold U64 at *; unfold byt V4; omega
theorem byt_V4_14 {y0 y1 y2 y3 : Int} (_h0 : U64 y0) (_h1 : U64 y1) (_h2 : U64 y2) (_h3 : U64 y3) : byt (V4 y0 y1 y2 y3) 14 = y1 / 281474976710656 % 256 := by
 unfold U64 at *; unfold byt V4; omega
theorem byt_V4_15 {y0 y1 y2 y3 : Int} (_h0 : U64 y0) (_h1 : U64 y1) (_h2 : U64 y2) (_h3 : U64 y3) : byt (V4 y0 y1 y2 y3) 15 = y1 / 72057594037927936 % 256 := by
 unfold U64 at *; unfold byt V4; omega
theorem byt_V4_16 {y0 y1 y2 y3 : Int} (_h0 : U64 y0) (_h1 : U64 y1) (_h2 : U64 y2) (_h3 : U64 y3) : byt (V4 y0 y1 y2 y3) 16 = y2 % 256 := by
 unfold U64 at *; unfold byt V4; omega
theorem byt_V4_17 {y0 y1 y2 y3 : Int} (_h0 : U64 y0) (_h1 : U64 y1) (_h2 : U64 y2) (_h3 : U64 y3) : byt (V4 y0 y1 y2 y3) 17 = y2 / 256 % 256 := by
 unfold U64 at *; unfold byt V4; omega
theorem byt_V4_18 {y0 y1 y2 y3 : Int} (_h0 : U64 y0) (_h1 : U64 y1) (_h2 : U64 y2) (_h3 : U64 y3) : byt (V4 y0 y1 y2 y3) 18 = y2 / 65536 % 256 := by
 unfold U64 at *; unfold byt V4; omega
theorem byt_V4_19 {y0 y1 y2 y3 : Int} (_h0 : U64 y0) (_h1 : U64 y1) (_h2 : U64 y2) (_h3 : U64 y3) : byt (V4 y0 y1 y2 y3) 19 = y2 / 16777216 % 256 := by
 unfold U64 at *; unfold byt V4; omega
theorem byt_V4_20 {y0 y1 y2 y3 : Int} (_h0 : U64 y0) (_h1 : U64 y1) (_h2 : U64 y2) (_h3 : U64 y3) : byt (V4 y0 y1 y2 y3) 20 = y2 / 4294967296 % 256 := by
 unfold U64 at *; unfold byt V4; omega
theorem byt_V4_21 {y0 y1 y2 y3 : Int} (_h0 : U64 y0) (_h1 : U64 y1) (_h2 : U64 y2) (_h3 : U64 y3) : byt (V4 y0 y1 y2 y3) 21 = y2 / 1099511627776 % 256 := by
 unfold U64 at *; unfold byt V4; omega
theorem byt_V4_22 {y0 y1 y2 y3 : Int} (_h0 : U64 y0) (_h1 : U64 y1) (_h2 : U64 y2) (_h3 : U64 y3) : byt (V4 y0 y1 y2 y3) 22 = y2 / 281474976710656 % 256 := by
 unfold U64 at *; unfold byt V4; omega
theorem byt_V4_23 {y0 y1 y2 y3 : Int} (_h0 : U64 y0) (_h1 : U64 y1) (_h2 : U64 y2) (_h3 : U64 y3) : byt (V4 y0 y1 y2 y3) 23 = y2 / 72057594037927936 % 256 := by
 unfold U64 at *; unfold byt V4; omega
theorem byt_V4_24 {y0 y1 y2 y3 : Int} (_h0 : U64 y0) (_h1 : U64 y1) (_h2 : U64 y2) (_h3 : U64 y3) : byt (V4 y0 y1 y2 y3) 24 = y3 % 256 := by
 unfold U64 at *; unfold byt V4; omega
theorem byt_V4_25 {y0 y1 y2 y3 : Int} (_h0 : U64 y0) (_h1 : U64 y1) (_h2 : U64 y2) (_h3 : U64 y3) : byt (V4 y0 y1 y2 y3) 25 = y3 / 256 % 256 := by
 unfold U64 at *; unfold byt V4; omega
theorem byt_V4_26 {y0 y1 y2 y3 : Int} (_h0 : U64 y0) (_h1 : U64 y1) (_h2 : U64 y2) (_h3 : U64 y3) : byt (V4 y0 y1 y2 y3) 26 = y3 / 65536 % 256 := by
 unfold U64 at *; unfold byt V4; omega
theorem byt_V4_27 {y0 y1 y2 y3 : Int} (_h0 : U64 y0) (_h1 : U64 y1) (_h2 : U64 y2) (_h3 : U64 y3) : byt (V4 y0 y1 y2 y3) 27 = y3 / 16777216 % 256 := by
 unfold U64 at *; unfold byt V4; omega
theorem byt_V4_28 {y0 y1 y2 y3 : Int} (_h0 : U64 y0) (_h1 : U64 y1) (_h2 : U64 y2) (_h3 : U64 y3) : byt (V4 y0 y1 y2 y3) 28 = y3 / 4294967296 % 256 := by
 unfold U64 at *; unfold byt V4; omega
theorem byt_V4_29 {y0 y1 y2 y3 : Int} (_h0 : U64 y0) (_h1 : U64 y1) (_h2 : U64 y2) (_h3 : U64 y3) : byt (V4 y0 y1 y2 y3) 29 = y3 / 1099511627776 % 256 := by
 unfold U64 at *; unfold byt V4; omega
theorem byt_V4_30 {y0 y1 y2 y3 : Int} (_h0 : U64 y0) (_h1 : U64 y1) (_h2 : U64 y2) (_h3 : U64 y3) : byt (V4 y0 y1 y2 y3) 30 = y3 / 281474976710656 % 256 := by
 unfold U64 at *; unfold byt V4; omega
theorem byt_V4_31 {y0 y1 y2 y3 : Int} (_h0 : U64 y0) (_h1 : U64 y1) (_h2 : U64 y2) (_h3 : U64 y3) : byt (V4 y0 y1 y2 y3) 31 = y3 / 72057594037927936 % 256 := by
 unfold U64 at *; unfold byt V4; omega
theorem range32 : List.range 32 = [0, 1, 2, 3, 4, 5, 6, 7, 8, 9, 10, 11, 12, 13, 14, 15, 16, 17, 18, 19, 20, 21, 22, 23, 24, 25, 26, 27, 28, 29, 30, 31] := rfl
theorem put8_all {y0 y1 y2 y3 : Int} (h0 : U64 y0) (h1 : U64 y1) (h2 : U64 y2) (h3 : U64 y3) : put8 (put8 (put8 (put8 (BA 0) 0 y0) 8 y1) 16 y2) 24 y3 = BA (V4 y0 y1 y2 y3) := by
 simp only [put8, BA, range32, List.map_cons, List.map_nil, List.setIfInBounds_toArray, List.set_cons_zero, List.set_cons_succ, Nat.reduceAdd]
 rw [byt_V4_0 h0 h1 h2 h3]
 rw [byt_V4_1 h0 h1 h2 h3]
 rw [byt_V4_2 h0 h1 h2 h3]
 rw [byt_V4_3 h0 h1 h2 h3]
 rw [byt_V4_4 h0 h1 h2 h3]
 rw [byt_V4_5 h0 h1 h2 h3]
 rw [byt_V4_6 h0 h1 h2 h3]
 rw [byt_V4_7 h0 h1 h2 h3]
 rw [byt_V4_8 h0 h1 h2 h3]
 rw [byt_V4_9 h0 h1 h2 h3]
 rw [byt_V4_10 h0 h1 h2 h3]
 rw [byt_V4_11 h0 h1 h2 h3]
 rw [byt_V4_12 h0 h1 h2 h3]
 rw [byt_V4_13 h0 h1 h2 h3]
 rw [byt_V4_14 h0 h1 h2 h3]
 rw [byt_V4_15 h0 h1 h2 h3]
 rw [byt_V4_16 h0 h1 h2 h3]
 rw [byt_V4_17 h0 h1 h2 h3]
 rw [byt_V4_18 h0 h1 h2 h3]
 rw [byt_V4_19 h0 h1 h2 h3]
 rw [byt_V4_20 h0 h1 h2 h3]
 rw [byt_V4_21 h0 h1 h2 h3]
 rw [byt_V4_22 h0 h1 h2 h3]
 rw [byt_V4_23 h0 h1 h2 h3]
 rw [byt_V4_24 h0 h1 h2 h3]
 rw [byt_V4_25 h0 h1 h2 h3]
 rw [byt_V4_26 h0 h1 h2 h3]
 rw [byt_V4_27 h0 h1 h2 h3]
 rw [byt_V4_28 h0 h1 h2 h3]
 rw [byt_V4_29 h0 h1 h2 h3]
 rw [byt_V4_30 h0 h1 h2 h3]
 rw [byt_V4_31 h0 h1 h2 h3]
theorem bheap {B : Nat} {w w' : World} (h : Below B w w') {k : Nat} {o : Obj} (hk : w.heap[k]? = some o) (hB : k < B) : w'.heap[k]? = some o := (h.block k hB).trans hk
theorem heap_lt {w : World} {k : Nat} {o : Obj} (h : w.heap[k]? = some o) : k < w.heap.size := (Array.getElem?_eq_some_iff.1 h).1
theorem only_setRow (w : World) (g : Nat) (cs : Array Value) : Only g w (w.setRow g cs) :=
 ⟨rfl, rfl, rfl, by simp, fun k hk => setRow_other w g k cs hk⟩
theorem st_row {P : Program} {ops : Array Oper} {rest : List Oper} {o : Oper} {a : Act} {w : World} {Q : Exit → Act → World → Prop} (hgd : o.guard = none) (ty : TypeId) (x y : Operand) (ho : o.op = .store ty x y)
  (g : Nat) (cells : Array Value) (hx : a.eval x = .pointer (some ⟨g, 0, none⟩)) (hy : a.eval y = .agg cells)
  (t : TypeId) (old : Array Value) (hg : w.heap[g]? = some (.cells old t (0, 0))) (hi : (P.info? ty).map (·.size) = some cells.size)
  (hold : old.size = cells.size) (h1 : cells.all (·.oneCell') = true)
  (h : ∀ w2, w2.heap[g]? = some (.cells cells t (0, 0)) → Only g w w2 → wpList P ops Q rest (a.put o.dst undef) w2) : wpList P ops Q (o :: rest) a w :=
 wpList_store_row hgd ty x y ho g cells hx hy t old hg hi hold h1 (h _ (setRow_heap w g old cells t (0, 0) hg) (only_setRow w g cells))
theorem wp_gen {P : Program} {c : Code} {Q : Exit → Act → World → Prop} {a : Act} {w : World} (I : World → Prop) (hI : I w) (h : ∀ w', I w' → c.wp P Q a w') : c.wp P Q a w := h w hI
theorem wrap_0 : IntKind.i64.wrap 0 = 0 := by decide +kernel
theorem wrap_8 : IntKind.i64.wrap 8 = 8 := by decide +kernel
theorem wrap_16 : IntKind.i64.wrap 16 = 16 := by decide +kernel
theorem wrap_24 : IntKind.i64.wrap 24 = 24 := by decide +kernel
theorem wrap_32 : IntKind.i64.wrap 32 = 32 := by decide +kernel
theorem st_limbs {ops : Array Oper} {rest : List Oper} {o : Oper} {a : Act} {w : World} {Q : Exit → Act → World → Prop} (hgd : o.guard = none) (x y : Operand) (ho : o.op = .store 142 x y)
  (g : Nat) (y0 y1 y2 y3 : Int) (hx : a.eval x = .pointer (some ⟨g, 0, none⟩)) (hy : a.eval y = .agg #[.int .u64 y0, .int .u64 y1, .int .u64 y2, .int .u64 y3])
  (v0 v1 v2 v3 : Value) (hg : w.heap[g]? = some (.cells #[v0, v1, v2, v3] 142 (0, 0)))
  (h : ∀ w2, w2.heap[g]? = some (.cells #[.int .u64 y0, .int .u64 y1, .int .u64 y2, .int .u64 y3] 142 (0, 0)) → Only g w w2 → wpList Tryz.prog ops Q rest (a.put o.dst undef) w2) : wpList Tryz.prog ops Q (o :: rest) a w :=
 st_row hgd 142 x y ho g _ hx hy 142 _ hg (by kernel_rfl) rfl (by simp [Value.oneCell']) h
theorem BA_one (n : Int) : (BA n).all (·.oneCell') = true := by simp [BA, Value.oneCell']
theorem info32 : (Tryz.prog.info? 22).map (·.size) = some 32 := by kernel_rfl
theorem st_bytes {ops : Array Oper} {rest : List Oper} {o : Oper} {a : Act} {w : World} {Q : Exit → Act → World → Prop} (hgd : o.guard = none) (x y : Operand) (ho : o.op = .store 22 x y)
  (g : Nat) (n : Int) (hx : a.eval x = .pointer (some ⟨g, 0, none⟩)) (hy : a.eval y = .agg (BA n))
  (old : Array Value) (hg : w.heap[g]? = some (.cells old 22 (0, 0))) (hold : old.size = 32)
  (h : ∀ w2, w2.heap[g]? = some (.cells (BA n) 22 (0, 0)) → Only g w w2 → wpList Tryz.prog ops Q rest (a.put o.dst undef) w2) : wpList Tryz.prog ops Q (o :: rest) a w :=
 st_row hgd 22 x y ho g _ hx hy 22 _ hg (by rw [BA_size]; exact info32) (by rw [BA_size]; exact hold) (BA_one n) h
theorem ld_bytes {ops : Array Oper} {rest : List Oper} {o : Oper} {a : Act} {w : World} {Q : Exit → Act → World → Prop} (hgd : o.guard = none) (x : Operand) (ho : o.op = .load 22 x)
  (g : Nat) (cs : Array Value) (hx : a.eval x = .pointer (some ⟨g, 0, none⟩)) (hg : w.heap[g]? = some (.cells cs 22 (0, 0))) (hs : cs.size = 32)
  (h : wpList Tryz.prog ops Q rest (a.put o.dst (.agg cs)) w) : wpList Tryz.prog ops Q (o :: rest) a w :=
 wpList_load_row hgd 22 x ho g hx 22 cs (0, 0) _ hg Tryz.underlying22 rfl (by rw [hs]; exact info32) h
set_option maxHeartbeats 1000000 in
theorem store_any (x0 x1 x2 x3 : Int) (w : World) (h0 : U64 x0) (h1 : U64 x1) (h2 : U64 x2) (h3 : U64 x3) :
  Calls Tryz.prog 105 #[.agg #[.int .u64 x0, .int .u64 x1, .int .u64 x2, .int .u64 x3]] w fun e w' =>
   e = .returned (.agg (BA (V4 x0 x1 x2 x3 % P255))) ∧ Below w.heap.size w w' := by
 have e0 := wrap_0
 have e8 := wrap_8
 have e16 := wrap_16
 have e24 := wrap_24
 have e32 := wrap_32
 go_enter Tryz.func105, Tryz.ntmps105
 go_wp2_with fail
 refine (least_any _ _ _ _ _ h0 h1 h2 h3).mono ?_
 rintro e w1 ⟨y0, y1, y2, y3, hy0, hy1, hy2, hy3, e1, rfl, hb1⟩
 have E1 := Hid.mk e1
 clear e1
 have g1 := bheap hb1 (heap_alloc2_old w _ _) (by simp <;> omega)
 have g2 := bheap hb1 (heap_alloc2_new w _ _) (by simp <;> omega)
 have hB1 : Hid (Below w.heap.size w w1) := Below.trans (((Below.refl _ _).alloc (Nat.le_refl _) _).alloc (by simp) _) (hb1.mono (by simp <;> omega))
 clear hb1
 go_wp2_with (refine st_limbs rfl _ _ rfl _ _ _ _ _ rfl rfl _ _ _ _ g1 ?_; intro w2 g1 o2; have g2 := (o2.block _ (by omega)).trans g2; have hB2 : Hid (Below w.heap.size w w2) := Below.trans hB1.out (o2.below (Nat.le_refl _)); clear o2)
 have hz : w.heap.size + 1 < w2.heap.size := heap_lt g2
 refine wp_gen (fun w3 => w3.heap[w.heap.size]? = some (.cells #[.int .u64 y0, .int .u64 y1, .int .u64 y2, .int .u64 y3] 142 (0, 0)) ∧
  (∃ z : Array Value, w3.heap[w.heap.size + 1]? = some (.cells z 22 (0, 0)) ∧ z.size = 32) ∧ w3.heap[w2.heap.size]? = some (.cells (BA 0) 22 (0, 0)) ∧ Below w.heap.size w w3)
  ⟨(Below.heap_alloc _ _ _ (by omega)).trans g1, ⟨_, (Below.heap_alloc _ _ _ (by omega)).trans g2, rfl⟩, heap_alloc_new _ _, hB2.out.alloc (by omega) _⟩ ?_
 generalize w2.heap.size = b3 at *
 clear g1 g2 hB2
 rintro w3 ⟨g1, ⟨z, g2, sz⟩, g3, hB3⟩
 have cN : ∀ i, w3.cell? ⟨w.heap.size, i, none⟩ = _ := fun i => cell_of_row _ _ i _ _ _ g1
 refine wp_loop_rounds 5 ?_
 rw [rounds_succ]
 go_wp2
 go_region_with (go_at_call 139; refine (putWord_any _ _ _ _ (BA 0) 22 _ ?_ ?_).mono ?_; exact g3; (simp only [BA_size]; omega); rintro e v0 ⟨rfl, p0, o0⟩)
 have g3 := p0
 have g2 := (o0.block _ (by omega)).trans g2
 have cN := fun i => (o0.cell w.heap.size i (by omega)).trans (cN i)
 have hB3 := Below.trans (Below.drew hB3) (Only.below (b := b3) (B := w.heap.size) o0 (by omega))
 clear o0 p0
 go_wp2
 rw [rounds_succ]
 go_wp2
 go_region_with (go_at_call 139; refine (putWord_any _ _ _ _ (put8 (BA 0) 0 y0) 22 _ ?_ ?_).mono ?_; exact g3; (simp only [put8_size, BA_size]; omega); rintro e v1 ⟨rfl, p1, o1⟩)
 have g3 := p1
 have g2 := (o1.block _ (by omega)).trans g2
 have cN := fun i => (o1.cell w.heap.size i (by omega)).trans (cN i)
 have hB3 := Below.trans (Below.drew hB3) (Only.below (b := b3) (B := w.heap.size) o1 (by omega))
 clear o1 p1
 go_wp2
 rw [rounds_succ]
 go_wp2
 go_region_with (go_at_call 139; refine (putWord_any _ _ _ _ (put8 (put8 (BA 0) 0 y0) 8 y1) 22 _ ?_ ?_).mono ?_; exact g3; (simp only [put8_size, BA_size]; omega); rintro e v2 ⟨rfl, p2, o2⟩)
 have g3 := p2
 have g2 := (o2.block _ (by omega)).trans g2
 have cN := fun i => (o2.cell w.heap.size i (by omega)).trans (cN i)
 have hB3 := Below.trans (Below.drew hB3) (Only.below (b := b3) (B := w.heap.size) o2 (by omega))
 clear o2 p2
 go_wp2
 rw [rounds_succ]
 go_wp2
 go_region_with (go_at_call 139; refine (putWord_any _ _ _ _ (put8 (put8 (put8 (BA 0) 0 y0) 8 y1) 16 y2) 22 _ ?_ ?_).mono ?_; exact g3; (simp only [put8_size, BA_size]; omega); rintro e v3 ⟨rfl, p3, o3⟩)
 have g3 := p3
 have g2 := (o3.block _ (by omega)).trans g2
 have cN := fun i => (o3.cell w.heap.size i (by omega)).trans (cN i)
 have hB3 := Below.trans (Below.drew hB3) (Only.below (b := b3) (B := w.heap.size) o3 (by omega))
 clear o3 p3
 go_wp2
 rw [put8_all hy0 hy1 hy2 hy3] at g3
 rw [rounds_succ]
 go_wp2_with (first | (refine ld_bytes rfl _ rfl _ _ rfl g3 (BA_size _) ?_) | (refine st_bytes rfl _ _ rfl _ _ rfl rfl _ g2 sz ?_; intro w5 g5 o5))
 refine bodyPost_ret (v := .agg (BA (V4 x0 x1 x2 x3 % P255))) ?_ rfl ⟨rfl, Below.trans hB3 (Only.below (b := w.heap.size + 1) (B := w.heap.size) o5 (by omega))⟩
 rw [← E1.out]
 exact results_cell_row rfl _ _ _ _ _ _ _ rfl g5 Tryz.underlying22 rfl (by rw [BA_size]; exact info32)
end Go.Proofs.YthghcjepdhkfdaaGreatDoor.Fld

/-
  Own text. What plus of package field answers, for every two numbers of four words: a contract over the translation.
-/
namespace Go.Proofs.YthghcjepdhkfdaaGreatDoor.Fld
open Go.RowKit Go.Proofs
set_option maxRecDepth 100000
theorem add64_all {x y c : Int} (hx : U64 x) (hy : U64 y) (hc : Bit c) :
  ∃ lo hi, Sum3 x y c lo hi ∧ ∀ w, (callFunc 196 #[.int .u64 x, .int .u64 y, .int .u64 c]).run Tryz.prog w =
   .ok (.value (.tuple #[.int .u64 lo, .int .u64 hi])) w := by
 obtain ⟨lo, hi, hs, _⟩ := add64_run x y c hx hy hc default
 refine ⟨lo, hi, hs, fun w => ?_⟩
 obtain ⟨lo', hi', hs', e⟩ := add64_run x y c hx hy hc w
 have e1 : lo' = lo ∧ hi' = hi := by unfold Sum3 U64 Bit at hs hs'; omega
 rw [e, e1.1, e1.2]
theorem heap_a3 (w : World) (A B C : Obj) : (((w.alloc A).alloc B).alloc C).heap[w.heap.size + 1 + 1]? = some C := by
 have := heap_alloc_new ((w.alloc A).alloc B) C
 simpa using this
theorem bit_range {c : Int} (h : Bit c) : 0 ≤ c ∧ c ≤ 1 := by unfold Bit at h; omega
theorem plus_num {x0 x1 x2 x3 y0 y1 y2 y3 z0 z1 z2 z3 c0 c1 c2 c3 : Int} (s0 : Sum3 x0 y0 0 z0 c0) (s1 : Sum3 x1 y1 c0 z1 c1) (s2 : Sum3 x2 y2 c1 z2 c2) (s3 : Sum3 x3 y3 c2 z3 c3) :
  V4 z0 z1 z2 z3 + W256 * c3 = V4 x0 x1 x2 x3 + V4 y0 y1 y2 y3 := by
 unfold Sum3 at s0 s1 s2 s3
 unfold V4 W256
 omega
set_option maxHeartbeats 1000000 in
theorem plus_any (x0 x1 x2 x3 y0 y1 y2 y3 : Int) (w : World) (h0 : U64 x0) (h1 : U64 x1) (h2 : U64 x2) (h3 : U64 x3) (k0 : U64 y0) (k1 : U64 y1) (k2 : U64 y2) (k3 : U64 y3) :
  Calls Tryz.prog 194 #[.agg #[.int .u64 x0, .int .u64 x1, .int .u64 x2, .int .u64 x3], .agg #[.int .u64 y0, .int .u64 y1, .int .u64 y2, .int .u64 y3]] w fun e w' =>
   ∃ z0 z1 z2 z3, U64 z0 ∧ U64 z1 ∧ U64 z2 ∧ U64 z3 ∧ (∃ k : Int, V4 z0 z1 z2 z3 = V4 x0 x1 x2 x3 + V4 y0 y1 y2 y3 + k * P255) ∧
    e = .returned (.agg #[.int .u64 z0, .int .u64 z1, .int .u64 z2, .int .u64 z3]) ∧ Below w.heap.size w w' := by
 obtain ⟨z0, c0, s0, r0⟩ := add64_all h0 k0 bit0
 obtain ⟨z1, c1, s1, r1⟩ := add64_all h1 k1 s0.hi
 obtain ⟨z2, c2, s2, r2⟩ := add64_all h2 k2 s1.hi
 obtain ⟨z3, c3, s3, r3⟩ := add64_all h3 k3 s2.hi
 go_enter Tryz.func194, Tryz.ntmps194
 go_wp2
 refine wp_loop_rounds 5 ?_
 rw [rounds_succ]
 go_wp2
 go_region
 go_wp2
 rw [rounds_succ]
 go_wp2
 go_region
 go_wp2
 rw [rounds_succ]
 go_wp2
 go_region
 go_wp2
 rw [rounds_succ]
 go_wp2
 go_region
 go_wp2
 rw [rounds_succ]
 clear r0 r1 r2 r3
 have hc := bit_range s3.hi
 have hc0 := hc.1
 have hc1 := hc.2
 go_wp2_with fail
 refine (fold_any _ _ _ _ _ _ s0.lo s1.lo s2.lo s3.lo (by omega) (by omega)).mono ?_
 rintro e w1 ⟨q0, q1, q2, q3, hq0, hq1, hq2, hq3, ⟨k, ek⟩, rfl, hb1⟩
 have g4 := bheap hb1 (heap_a3 w _ _ _) (by simp <;> omega)
 have hB1 : Hid (Below w.heap.size w w1) := by
  refine Below.trans ?_ (hb1.mono (by simp <;> omega))
  repeat first | exact Below.refl _ _ | refine Below.alloc ?_ (by simp <;> omega) _ | refine Below.drew ?_ | refine Below.drewN' ?_ _
 clear hb1
 have EK := Hid.mk ek
 clear ek
 go_wp2_with (refine st_limbs rfl _ _ rfl _ _ _ _ _ rfl rfl _ _ _ _ g4 ?_; intro w2 g5 o5)
 refine bodyPost_ret (v := .agg #[.int .u64 q0, .int .u64 q1, .int .u64 q2, .int .u64 q3]) (results_cell_row rfl _ _ _ _ _ _ _ rfl g5 Tryz.underlying142 rfl (by kernel_rfl)) rfl
  ⟨q0, q1, q2, q3, hq0, hq1, hq2, hq3, ⟨k, ?_⟩, rfl, Below.trans hB1.out (Only.below (b := w.heap.size + 1 + 1) (B := w.heap.size) o5 (by omega))⟩
 rw [EK.out, plus_num s0 s1 s2 s3]
end Go.Proofs.YthghcjepdhkfdaaGreatDoor.Fld

/-
  Own text. What math/bits.Mul64, math/bits.Sub64 and opposite of package field answer: contracts over the translation.
-/
namespace Go.Proofs.YthghcjepdhkfdaaGreatDoor.Fld
open Go.RowKit Go.Proofs
set_option maxRecDepth 100000
theorem mul64_hi (x y : Int) (hx : U64 x) (hy : U64 y) :
  IntKind.u64.wrap
   (IntKind.u64.wrap
     (IntKind.u64.wrap (x / 4294967296 * (y / 4294967296)) +
      IntKind.u64.wrap
        (IntKind.u64.wrap (x / 4294967296 * bits BinOp.and IntKind.u64 y 4294967295) +
         IntKind.u64.wrap (bits BinOp.and IntKind.u64 x 4294967295 * bits BinOp.and IntKind.u64 y 4294967295) / 4294967296) /
       4294967296) +
    IntKind.u64.wrap
      (bits BinOp.and IntKind.u64
        (IntKind.u64.wrap
         (IntKind.u64.wrap (x / 4294967296 * bits BinOp.and IntKind.u64 y 4294967295) +
          IntKind.u64.wrap (bits BinOp.and IntKind.u64 x 4294967295 * bits BinOp.and IntKind.u64 y 4294967295) / 4294967296))
        4294967295 +
       IntKind.u64.wrap (bits BinOp.and IntKind.u64 x 4294967295 * (y / 4294967296))) /
     4294967296) = x * y / 18446744073709551616 := by
 rw [and_low32 x hx.1 hx.2, and_low32 y hy.1 hy.2]
 simp only [IntKind.wrap_u64]
 rw [and_low32 (_ % 18446744073709551616) (by omega) (by omega)]
 exact mul64_arith x y hx.1 hx.2 hy.1 hy.2
theorem ret_two {k : IntKind} {a b c d : Int} (h : a = b) (h' : c = d) : Ending.returned (.tuple #[.int k a, .int k c]) = .returned (.tuple #[.int k b, .int k d]) := by rw [h, h']
set_option maxHeartbeats 1000000 in
theorem mul64_any (x y : Int) (w : World) (hx : U64 x) (hy : U64 y) :
  Calls Tryz.prog 195 #[.int .u64 x, .int .u64 y] w fun e w' => e = .returned (.tuple #[.int .u64 (x * y / 18446744073709551616), .int .u64 (x * y % 18446744073709551616)]) ∧ w' = w := by
 have H := Hid.mk (mul64_hi x y hx hy)
 go_enter Tryz.func195, Tryz.ntmps195
 go_wp2
 go_ret2
 exact ⟨ret_two H.out (IntKind.wrap_u64 _), rfl⟩
def Dif3 (x y b lo hi : Int) : Prop := U64 lo ∧ Bit hi ∧ lo = x - y - b + 18446744073709551616 * hi
theorem Dif3.lo {x y c lo hi : Int} (h : Dif3 x y c lo hi) : U64 lo := h.1
theorem Dif3.hi {x y c lo hi : Int} (h : Dif3 x y c lo hi) : Bit hi := h.2.1
theorem sub64_all {x y b : Int} (hx : U64 x) (hy : U64 y) (hb : Bit b) :
  ∃ lo hi, Dif3 x y b lo hi ∧ ∀ w, (callFunc 140 #[.int .u64 x, .int .u64 y, .int .u64 b]).run Tryz.prog w =
   .ok (.value (.tuple #[.int .u64 lo, .int .u64 hi])) w := by
 unfold U64 at hx hy
 unfold Bit at hb
 obtain ⟨X, rfl⟩ := Int.eq_ofNat_of_zero_le hx.1
 obtain ⟨Y, rfl⟩ := Int.eq_ofNat_of_zero_le hy.1
 obtain ⟨B, rfl⟩ := Int.eq_ofNat_of_zero_le (show 0 ≤ b by omega)
 refine ⟨(((X + 18446744073709551616 - Y - B) % 18446744073709551616 : Nat) : Int), ((if X < Y + B then 1 else 0 : Nat) : Int), ?_, fun w => ?_⟩
 ·unfold Dif3 U64 Bit
  split <;> omega
 ·rw [run_callFunc_extern Tryz.func140 (by kernel_rfl) (by kernel_rfl) (by kernel_rfl) (e := sub64Entry) (by kernel_rfl), run_sub64 X Y B (by omega)]
  rfl
def PrimeAt (w : World) : Prop := w.cell? ⟨0, 0, none⟩ = some (.int .u64 18446744073709551597) ∧ w.cell? ⟨0, 1, none⟩ = some (.int .u64 18446744073709551615) ∧
 w.cell? ⟨0, 2, none⟩ = some (.int .u64 18446744073709551615) ∧ w.cell? ⟨0, 3, none⟩ = some (.int .u64 9223372036854775807)
theorem primeAt_below {B : Nat} {w w' : World} (h : PrimeAt w) (hb : Below B w w') (hB : 0 < B) : PrimeAt w' :=
 ⟨(hb.cell hB).trans h.1, (hb.cell hB).trans h.2.1, (hb.cell hB).trans h.2.2.1, (hb.cell hB).trans h.2.2.2⟩
theorem primeAt_pos {w : World} (h : PrimeAt w) : 0 < w.heap.size := World.block_lt_of_cell? w _ h.1
theorem opp_num {x0 x1 x2 x3 z0 z1 z2 z3 b0 b1 b2 b3 : Int} (h0 : U64 x0) (h1 : U64 x1) (h2 : U64 x2) (h3 : U64 x3) (hx : V4 x0 x1 x2 x3 ≤ P255)
  (s0 : Dif3 18446744073709551597 x0 0 z0 b0) (s1 : Dif3 18446744073709551615 x1 b0 z1 b1) (s2 : Dif3 18446744073709551615 x2 b1 z2 b2) (s3 : Dif3 9223372036854775807 x3 b2 z3 b3) :
  V4 z0 z1 z2 z3 = P255 - V4 x0 x1 x2 x3 := by
 have hz := V4_range s0.lo s1.lo s2.lo s3.lo
 have hb := s3.hi
 unfold Dif3 at s0 s1 s2 s3
 have e : V4 z0 z1 z2 z3 = P255 - V4 x0 x1 x2 x3 + W256 * b3 := by unfold V4 P255 W256; omega
 have hv := V4_range h0 h1 h2 h3
 unfold Bit at hb
 generalize V4 z0 z1 z2 z3 = Z at *
 generalize V4 x0 x1 x2 x3 = X at *
 unfold P255 W256 at *
 rcases hb with rfl | rfl <;> omega
set_option maxHeartbeats 1000000 in
theorem opposite_any (x0 x1 x2 x3 : Int) (w : World) (hP : PrimeAt w) (h0 : U64 x0) (h1 : U64 x1) (h2 : U64 x2) (h3 : U64 x3) (hx : V4 x0 x1 x2 x3 ≤ P255) :
  Calls Tryz.prog 106 #[.agg #[.int .u64 x0, .int .u64 x1, .int .u64 x2, .int .u64 x3]] w fun e w' =>
   ∃ z0 z1 z2 z3, U64 z0 ∧ U64 z1 ∧ U64 z2 ∧ U64 z3 ∧ V4 z0 z1 z2 z3 = P255 - V4 x0 x1 x2 x3 ∧
    e = .returned (.agg #[.int .u64 z0, .int .u64 z1, .int .u64 z2, .int .u64 z3]) ∧ Below w.heap.size w w' := by
 obtain ⟨z0, c0, s0, r0⟩ := sub64_all (x := 18446744073709551597) (by unfold U64; omega) h0 bit0
 obtain ⟨z1, c1, s1, r1⟩ := sub64_all (x := 18446744073709551615) (by unfold U64; omega) h1 s0.hi
 obtain ⟨z2, c2, s2, r2⟩ := sub64_all (x := 18446744073709551615) (by unfold U64; omega) h2 s1.hi
 obtain ⟨z3, c3, s3, r3⟩ := sub64_all (x := 9223372036854775807) (by unfold U64; omega) h3 s2.hi
 have HX := Hid.mk hx
 clear hx
 have hw0 : 0 < w.heap.size := primeAt_pos hP
 obtain ⟨q0, q1, q2, q3⟩ := hP
 go_enter Tryz.func106, Tryz.ntmps106
 go_wp2
 refine wp_loop_rounds 5 ?_
 rw [rounds_succ]
 go_wp2
 go_region
 go_wp2
 rw [rounds_succ]
 go_wp2
 go_region
 go_wp2
 rw [rounds_succ]
 go_wp2
 go_region
 go_wp2
 rw [rounds_succ]
 go_wp2
 go_region
 go_wp2
 rw [rounds_succ]
 go_wp2
 refine bodyPost_ret (v := .agg #[.int .u64 z0, .int .u64 z1, .int .u64 z2, .int .u64 z3]) (by simp [results, Tryz.results106, go_sem]) rfl
  ⟨z0, z1, z2, z3, s0.lo, s1.lo, s2.lo, s3.lo, opp_num h0 h1 h2 h3 HX.out s0 s1 s2 s3, rfl, ?_⟩
 repeat first | exact Below.refl _ _ | refine Below.alloc ?_ (by simp <;> omega) _ | refine Below.drew ?_ | refine Below.drewN' ?_ _
end Go.Proofs.YthghcjepdhkfdaaGreatDoor.Fld

/-
  Own text. What the tied condition on the variables 'prime', 'beginnings' and 'orders' gives; arguments.
-/
namespace Go.Proofs.YthghcjepdhkfdaaGreatDoor
open Go.ChangeShapes Go.WideShapes Go.ChangeAt Go.WideMaps Go.WideElems Go.RowKit Go.Proofs
set_option maxRecDepth 100000
theorem own : ownKnob Tryz.prog.godebug = none := by kernel_rfl
def laidP : List (String × DataW Unit) := Rows.noiseBeginsRow.laid
def priName : String := (laidP.map (·.1)).getD 0 "none"
def begName : String := (laidP.map (·.1)).getD 1 "none"
def ordName : String := (laidP.map (·.1)).getD 2 "none"
theorem gPri : Tryz.prog.globalNamed priName = some 0 := by kernel_rfl
theorem tPri : (Tryz.prog.globals[0]?).map (·.type) = some 142 := by kernel_rfl
theorem cellsU64 : Tryz.prog.cellsOf 98 = 1 := by kernel_rfl
theorem gBeg : Tryz.prog.globalNamed begName = some 1 := by kernel_rfl
theorem gOrd : Tryz.prog.globalNamed ordName = some 2 := by kernel_rfl
theorem tBeg : (Tryz.prog.globals[1]?).map (·.type) = some 193 := by kernel_rfl
theorem tOrd : (Tryz.prog.globals[2]?).map (·.type) = some 255 := by kernel_rfl
theorem cellsU32 : Tryz.prog.cellsOf 23 = 1 := by kernel_rfl
theorem cells16 : Tryz.prog.cellsOf 54 = 16 := by kernel_rfl
theorem bgn_list (i : Nat) (hi : i < 8) : ([.lit (.int .u32 1779033703), .lit (.int .u32 3144134277), .lit (.int .u32 1013904242), .lit (.int .u32 2773480762), .lit (.int .u32 1359893119), .lit (.int .u32 2600822924), .lit (.int .u32 528734635), .lit (.int .u32 1541459225)] : List (DataW Unit))[i]? = some (.lit (.int .u32 (bgn i))) := by
 match i, hi with
 | 0, _ => rfl
 | 1, _ => rfl
 | 2, _ => rfl
 | 3, _ => rfl
 | 4, _ => rfl
 | 5, _ => rfl
 | 6, _ => rfl
 | 7, _ => rfl
def ordD (s : Nat) : List (DataW Unit) := (List.range 16).map fun i => .lit (.int .u8 (ordI s i))
theorem ord_data : (Rows.laid_adit_blake_orders : DataW Unit) = .agg ((List.range 10).map fun s => .agg (ordD s)) := by kernel_rfl
theorem door_met (os : Os) (args : Array Value) : laidMet Tryz.prog laidP ((World.doorLaid Tryz.prog 400 os).forCall (fun _ _ => 0) ⟨#[], args, []⟩).memory :=
 laidMet_of_run' 8 (by kernel_rfl) (by kernel_rfl)
theorem laid_all {W : World} (h : laidMetH Tryz.prog laidP W) : Tabs W ∧ Fld.PrimeAt W := by
 rw [MakeChecks.laidMetH_plain _ _ _ (by kernel_rfl)] at h
 obtain ⟨ps, ⟨g2, t2, cs2, f2, p2, q2, hg2, ht2, hv2, hd2, hrest0, _⟩, _⟩ := h
 obtain ⟨g0, t0, cs0, f0, p0, q0, hg0, ht0, hv0, hd0, hrest, _⟩ := hrest0
 obtain ⟨g1, t1, cs1, f1, p1, q1, hg1, ht1, hv1, hd1, _, _⟩ := hrest
 obtain rfl := Option.some.inj (gPri.symm.trans hg2)
 obtain rfl := Option.some.inj (tPri.symm.trans ht2)
 obtain rfl := Option.some.inj (gBeg.symm.trans hg0)
 obtain rfl := Option.some.inj (tBeg.symm.trans ht0)
 obtain rfl := Option.some.inj (gOrd.symm.trans hg1)
 obtain rfl := Option.some.inj (tOrd.symm.trans ht1)
 refine ⟨⟨fun i hi => ?_, fun s hs i hi => ?_⟩, ?_⟩
 ·obtain ⟨xs, m1, rfl, hx1, hlen, hn8, hel⟩ := DataW.trod_array Tryz.underlying193 hd0
  simp only [Prod.mk.injEq, Rows.laid_adit_blake_beginnings, DataW.agg.injEq] at hx1
  have hk := bgn_list i hi
  rw [hx1.1] at hk
  have h0 := hel i hi
  rw [cellsU32, Nat.mul_one] at h0
  have hxi : i < xs.length := by omega
  rw [List.getElem?_eq_getElem hxi] at h0
  obtain ⟨k', e1, e2, _⟩ := DataW.trod_int Tryz.underlying23 h0
  have hk2 : k' = bgn i := by
   rw [List.getElem?_map, List.getElem?_eq_getElem hxi, e2] at hk
   simpa using hk
  subst hk2
  rw [World.var?_cell hg0 hv0 i]
  have : cs0.toList[i]? = some (.int .u32 (bgn i)) := by
   have h2 := congrArg (fun l => l[0]?) e1
   simpa [List.getElem?_take, List.getElem?_drop] using h2
  simpa using this
 ·obtain ⟨xs, m1, rfl, hx1, hlen, hn10, hel⟩ := DataW.trod_array Tryz.underlying255 hd1
  rw [ord_data] at hx1
  simp only [Prod.mk.injEq, DataW.agg.injEq] at hx1
  have hxs : s < xs.length := by omega
  have hr : (xs[s]).1 = .agg (ordD s) := by
   have := congrArg (fun l => l[s]?) hx1.1
   simp [hs, hxs] at this
   exact this.symm
  have h0 := hel s hs
  rw [cells16, List.getElem?_eq_getElem hxs] at h0
  obtain ⟨ys, m2, rfl, hy, hlen2, hn16, hel2⟩ := DataW.trod_array Tryz.underlying54 h0
  have hyd : ys.map (·.1) = ordD s := by
   have h3 := congrArg Prod.fst hy
   rw [hr] at h3
   simpa using h3.symm
  have hyi : i < ys.length := by omega
  have h1 := hel2 i hi
  rw [cells5, Nat.mul_one, List.getElem?_eq_getElem hyi] at h1
  obtain ⟨k', e1, e2, _⟩ := DataW.trod_int Tryz.underlying5 h1
  have hk2 : k' = ordI s i := by
   have h4 := congrArg (fun l => l[i]?) hyd
   simp only [List.getElem?_map, List.getElem?_eq_getElem hyi, e2, Option.map_some, ordD] at h4
   simpa [hi] using h4
  subst hk2
  rw [World.var?_cell hg1 hv1 (s * 16 + i)]
  have : cs1.toList[s * 16 + i]? = some (.int .u8 (ordI s i)) := by
   have h2 := congrArg (fun l => l[0]?) e1
   simpa [List.getElem?_take, List.getElem?_drop, hi] using h2
  simpa using this
 ·obtain ⟨xs, m1, rfl, hx1, hlen, hn4, hel⟩ := DataW.trod_array Tryz.underlying142 hd2
  simp only [Prod.mk.injEq, Rows.laid_adit_field_prime, DataW.agg.injEq] at hx1
  have key : ∀ i, i < 4 → ∀ k : Int, (xs.map (·.1))[i]? = some (.lit (.int .u64 k)) → W.cell? ⟨0, i, none⟩ = some (.int .u64 k) := fun i hi k hk => by
   have h0 := hel i hi
   rw [cellsU64, Nat.mul_one] at h0
   have hxi : i < xs.length := by omega
   rw [List.getElem?_eq_getElem hxi] at h0
   obtain ⟨k', e1, e2, _⟩ := DataW.trod_int Tryz.underlying98 h0
   have hk2 : k' = k := by
    rw [List.getElem?_map, List.getElem?_eq_getElem hxi, e2] at hk
    simpa using hk
   subst hk2
   have hc := World.var?_cell hg2 hv2 i
   rw [hc]
   have : cs2.toList[i]? = some (.int .u64 k') := by
    have h2 := congrArg (fun l => l[0]?) e1
    simpa [List.getElem?_take, List.getElem?_drop] using h2
   simpa using this
  rw [← hx1.1] at key
  exact ⟨key 0 (by omega) _ rfl, key 1 (by omega) _ rfl, key 2 (by omega) _ rfl, key 3 (by omega) _ rfl⟩
end Go.Proofs.YthghcjepdhkfdaaGreatDoor

/-
  Own text. What take of the document's answer for blake does.
-/
namespace Go.Proofs.YthghcjepdhkfdaaGreatDoor
open Go.RowKit Go.Proofs
set_option maxRecDepth 100000
theorem begV_false (h V0 : Nat → Int) (t : Int) (h0 : ∀ q, q < 16 → V0 q = if q < 8 then h q else bgn (q - 8)) : ∀ i, i < 16 → upd (upd V0 12 (xorw (V0 12) (t % 4294967296))) 13 (xorw (upd V0 12 (xorw (V0 12) (t % 4294967296)) 13) (t / 4294967296)) i = begV h t false i := fun i hi => by
 have h12 : V0 12 = bgn 4 := h0 12 (by omega)
 have h13 : V0 13 = bgn 5 := h0 13 (by omega)
 unfold upd begV
 by_cases e13 : i = 13
 ·subst e13; simp [h13]
 ·by_cases e12 : i = 12
  ·subst e12; simp [h12]
  ·simp [e12, e13, h0 i hi]
theorem begV_true (h V2 : Nat → Int) (t : Int) (h0 : ∀ q, q < 16 → V2 q = begV h t false q) : ∀ i, i < 16 → upd V2 14 (xorw (V2 14) 4294967295) i = begV h t true i := fun i hi => by
 have h14 : V2 14 = bgn 6 := h0 14 (by omega)
 unfold upd
 by_cases e14 : i = 14
 ·subst e14; rw [if_pos rfl, h14]; rfl
 ·rw [if_neg e14, h0 i hi]
  unfold begV
  simp [e14]
end Go.Proofs.YthghcjepdhkfdaaGreatDoor

/-
  Own text. What Hash of the document's answer for blake gives.
-/
namespace Go.Proofs.YthghcjepdhkfdaaGreatDoor
open Go.RowKit Go.Proofs
set_option maxRecDepth 100000
def h0F (size kl : Nat) : Nat → Int := upd bgn 0 (xorw (xorw (xorw (bgn 0) 16842752) (256 * (kl : Int))) (size : Int))
def allT (key text : ByteArray) : ByteArray := if key.size = 0 then text else key ++ mkS (64 - key.size) (fun _ => 0) ++ text
def stF (all : ByteArray) (h0 : Nat → Int) : Nat → Nat → Int
 | 0 => h0
 | k + 1 => takeF (stF all h0 k) (fun j => txt all (64 * k + j)) ((64 * k + min 64 (all.size - 64 * k) : Nat) : Int) (decide (64 * k + min 64 (all.size - 64 * k) = all.size))
def nbF (n : Nat) : Nat := if n = 0 then 1 else (n + 63) / 64
def outF (h : Nat → Int) (i : Nat) : Int := h (i / 4) / 256 ^ (i % 4) % 256
theorem outF_b (h : Nat → Int) (i : Nat) : 0 ≤ outF h i ∧ outF h i < 256 := by unfold outF; omega
def hashT (size : Nat) (key text : ByteArray) : ByteArray := mkS size (outF (stF (allT key text) (h0F size key.size) (nbF (allT key text).size)))
theorem h0F_w {size kl : Nat} (hs : size ≤ 64) (hk : kl ≤ 64) : ∀ i, i < 8 → W32 (h0F size kl i) := w32_upd (fun i _ => bgn_w i) (xorw_w (xorw_w (xorw_w (bgn_w 0) (by unfold W32; omega)) (by unfold W32; omega)) (by unfold W32; omega))
theorem exec_addV {a : Act} {o : Oper} {w : World} {x y : Operand} (ho : o.op = .binOp .add 3 x y 3) {m n q : Nat} (hx : a.eval x = .int .i64 (m : Int)) (hy : a.eval y = .int .i64 (n : Int)) (e : m + n = q) (h : m + n < 9223372036854775808) : (execOp a.eval o).run Tryz.prog w = .ok (.value (.int .i64 (q : Int))) w := e ▸ exec_addN ho hx hy h
theorem run_makeB (n : Nat) (hn : n ≤ 64) (w : World) : (Instr.makeSlice 81 (.int .i64 (n : Int)) (.int .i64 (n : Int))).run Tryz.prog w = .ok (.slice (some ⟨w.heap.size, 0, none⟩) n n) (w.alloc (.cells (WA .u8 n fun _ => 0) 5)) := by
 have hm := run_make_row' (P := Tryz.prog) 81 5 (.int .u8 0) 1 Tryz.underlying81 infoByte rfl .i64 .i64 n (by omega) (by omega) w
 rw [made_WA] at hm
 exact hm
theorem wl_makeB {ops : Array Oper} {rest : List Oper} {d : Option Tmp} {x y : Operand} {ty : TypeId} {ps : String} {af : Array Edge} {a : Act} {w : World} {Q : Exit → Act → World → Prop} {n : Nat} (hx : a.eval x = .int .i64 (n : Int)) (hy : a.eval y = .int .i64 (n : Int)) (hn : n ≤ 64)
  (h : ∀ w', ArrAt w' w.heap.size .u8 5 n (fun _ => 0) → Below w.heap.size w w' → wpList Tryz.prog ops Q rest (a.put d (.slice (some ⟨w.heap.size, 0, none⟩) n n)) w') :
  wpList Tryz.prog ops Q ({ dst := d, op := .makeSlice 81 x y, type := ty, pos := ps, after := af, guard := none } :: rest) a w := by
 have hr := run_makeB n hn w
 refine wl_act rfl ?_
 unfold Oper.wp execOp
 simp only [hx, hy, Sem.run_bind, hr, Result.andThen_ok, Sem.run_pure, Oper.upon]
 exact h _ (heap_alloc_new w _) ((Below.refl _ _).alloc (Nat.le_refl _) _)
theorem wl_copyS {ops : Array Oper} {rest : List Oper} {dt : Option Tmp} {d s' : Operand} {ty : TypeId} {ps : String} {af : Array Edge} {a : Act} {w : World} {Q : Exit → Act → World → Prop}
  {g off dL dC n m : Nat} {t : TypeId} {s r : Nat → Int} (hd : a.eval d = .slice (some ⟨g, off, none⟩) dL dC) (hs : a.eval s' = .string (mkS m r)) (hg : ArrAt w g .u8 t n s) (hr : ∀ j, j < m → 0 ≤ r j ∧ r j < 256) (hm : m ≤ dL) (hfit : off + m ≤ n)
  (h : ∀ w', ArrAt w' g .u8 t n (over s off m r) → Only g w w' → wpList Tryz.prog ops Q rest (a.put dt (goInt m)) w') :
  wpList Tryz.prog ops Q ({ dst := dt, op := .call { callee := .builtin .copy, args := #[d, s'], argTypes := #[81, 9] }, type := ty, pos := ps, after := af, guard := none } :: rest) a w :=
 wl_act rfl (act_copyS rfl hd hs hg hr hm hfit h)
theorem conv_ib (n : Int) (w : World) : (convert 3 5 (.int .i64 n)).run Tryz.prog w = .ok (.int .u8 (n % 256)) w := by
 have e : IntKind.u8.wrap n = n % 256 := by rw [IntKind.wrap_u8]
 simp [go_sem, e]
theorem run_bsB (n : Int) (w : World) : (Instr.buildSlice 81 1 #[(0, .int .u8 n)]).run Tryz.prog w = .ok (.slice (some ⟨w.heap.size, 0, none⟩) 1 1) (w.alloc (.cells #[.int .u8 n] 5)) := by simp [go_sem]
end Go.Proofs.YthghcjepdhkfdaaGreatDoor

/-
  Own text. What Hash of the document's answer for blake gives: the walk.
-/
namespace Go.Proofs.YthghcjepdhkfdaaGreatDoor
open Go.RowKit Go.Proofs
set_option maxRecDepth 100000
end Go.Proofs.YthghcjepdhkfdaaGreatDoor

/-
  Own text. What Sum and Keyed of the document's answer for blake give.
-/
namespace Go.Proofs.YthghcjepdhkfdaaGreatDoor
open Go.RowKit Go.Proofs
set_option maxRecDepth 100000
def sumF (text : ByteArray) : Nat → Int := outF (stF text (h0F 32 0) (nbF text.size))
def keyedT (size : Int) (key text : ByteArray) : ByteArray × Int := if 1 ≤ size ∧ size ≤ 32 ∧ key.size ≤ 32 then (hashT size.toNat key text, 0) else (⟨#[]⟩, 1)
end Go.Proofs.YthghcjepdhkfdaaGreatDoor

/-
  Own text. What MAC of the document's answer for blake gives.
-/
namespace Go.Proofs.YthghcjepdhkfdaaGreatDoor
open Go.RowKit Go.Proofs
set_option maxRecDepth 100000
def padK (k : ByteArray) (c : Int) (i : Nat) : Int := xorw (txt k i) c
def keyM (key : ByteArray) : ByteArray := if 64 < key.size then mkS 32 (sumF key) else key
def macF (key text : ByteArray) : Nat → Int := sumF (mkS 64 (padK (keyM key) 92) ++ mkS 32 (sumF (mkS 64 (padK (keyM key) 54) ++ text)))
end Go.Proofs.YthghcjepdhkfdaaGreatDoor

/-
  Own text. What Chain of the document's answer for blake gives.
-/
namespace Go.Proofs.YthghcjepdhkfdaaGreatDoor
open Go.RowKit Go.Proofs
set_option maxRecDepth 100000
def lstT (z : Nat → Int) : Nat → ByteArray
 | 0 => ⟨#[]⟩
 | i + 1 => mkS 32 (macF (mkS 32 z) (lstT z i ++ mkS 1 fun _ => ((i + 1 : Nat) : Int) % 256))
def chK (z : Nat → Int) (i : Nat) : Nat → Int := macF (mkS 32 z) (lstT z i ++ mkS 1 fun _ => ((i + 1 : Nat) : Int) % 256)
theorem lstT_next (z : Nat → Int) (i : Nat) : lstT z (i + 1) = mkS 32 (chK z i) := rfl
theorem lstT_size (z : Nat → Int) (i : Nat) : (lstT z i).size ≤ 32 := by
 cases i with
 | zero => exact Nat.zero_le _
 | succ i => rw [lstT_next, mkS_size]; omega
def rowsL (f : Nat → Nat → Int) : Nat → List Value
 | 0 => []
 | n + 1 => rowsL f n ++ nums .u8 32 (f n)
theorem macF_b (key text : ByteArray) (j : Nat) : 0 ≤ macF key text j ∧ macF key text j < 256 := outF_b _ j
theorem infoRow : (Tryz.prog.info? 22).map (fun i => (i.zero, i.size, i.bytes)) = some (some (.agg (WA .u8 32 fun _ => 0)), 32, 32) := by kernel_rfl
theorem run_bsR (s : Nat → Int) (w : World) : (Instr.buildSlice 75 1 #[(0, .agg (WA .u8 32 s))]).run Tryz.prog w = .ok (.slice (some ⟨w.heap.size, 0, none⟩) 1 1) (w.alloc (.cells (WA .u8 32 s) 22)) := by kernel_rfl
theorem wl_bsR {ops : Array Oper} {rest : List Oper} {d : Option Tmp} {x : Operand} {ty : TypeId} {ps : String} {af : Array Edge} {a : Act} {w : World} {Q : Exit → Act → World → Prop} {s : Nat → Int} (hx : a.eval x = .agg (WA .u8 32 s))
  (h : ∀ w', ArrAt w' w.heap.size .u8 22 32 s → Below w.heap.size w w' → wpList Tryz.prog ops Q rest (a.put d (.slice (some ⟨w.heap.size, 0, none⟩) 1 1)) w') :
  wpList Tryz.prog ops Q ({ dst := d, op := .buildSlice 75 1 #[(0, x)], type := ty, pos := ps, after := af, guard := none } :: rest) a w := by
 have hr := run_bsR s w
 refine wl_act rfl ?_
 unfold Oper.wp execOp
 simp only [List.map_toArray, List.map_cons, List.map_nil, hx, Sem.run_bind, hr, Result.andThen_ok, Sem.run_pure, Oper.upon]
 exact h _ (heap_alloc_new w _) ((Below.refl _ _).alloc (Nat.le_refl _) _)
theorem act_bsB {o : Oper} {a : Act} {w : World} {K : Act → World → Prop} {Q : Exit → Act → World → Prop} {x : Operand} (ho : o.op = .buildSlice 81 1 #[(0, x)]) {n : Int} (hx : a.eval x = .int .u8 n)
  (h : ∀ v, v.heap[w.heap.size]? = some (.cells (WA .u8 1 fun _ => n) 5 (0, 0)) → Below w.heap.size w v → K (a.put o.dst (.slice (some ⟨w.heap.size, 0, none⟩) 1 1)) v) : o.wp Tryz.prog a w K Q := by
 have hr := run_bsB n w
 unfold Oper.wp execOp
 simp only [ho, List.map_toArray, List.map_cons, List.map_nil, hx, Sem.run_bind, hr, Result.andThen_ok, Sem.run_pure, Oper.upon]
 exact h _ (heap_alloc_new w _) ((Below.refl _ _).alloc (Nat.le_refl _) _)
theorem ap_rows {ops : Array Oper} {rest : List Oper} {d : Option Tmp} {s x : Operand} {ty : TypeId} {ps : String} {af : Array Edge} {a : Act} {w : World} {Q : Exit → Act → World → Prop}
  {B k b : Nat} {xs : List Value} {v0 : Value} {f : Nat → Int} (hs : a.eval s = v0) (hx : a.eval x = .slice (some ⟨b, 0, none⟩) 1 1) (hD : w.ownsRow B 22 32 v0 k xs) (hg : ArrAt w b .u8 22 32 f) (hl : k < 4000000) (hB : B ≤ w.heap.size)
  (h : ∀ v' w', w'.ownsRow B 22 32 v' (k + 1) (xs ++ nums .u8 32 f) → Below B w w' → (∀ q, q < w.heap.size → some q ≠ v0.ownBlock → w'.heap[q]? = w.heap[q]?) → wpList Tryz.prog ops Q rest (a.put d v') w') :
  wpList Tryz.prog ops Q ({ dst := d, op := .call { callee := .builtin .append, args := #[s, x], argTypes := #[75, 75] }, type := ty, pos := ps, after := af, guard := none } :: rest) a w := by
 obtain ⟨i0, hi, hz0, hz1, hz2⟩ := info_parts infoRow
 refine wpList_append_own w rfl s x 75 rfl B 22 i0 (.agg (WA .u8 32 fun _ => 0)) 32 32 Tryz.underlying75 hi hz0 hz1 hz2 (by show (WA .u8 32 fun _ => 0).size = 32; rw [WA_size]) (by decide) _ k _ hs hD ⟨b, 0, none⟩ 1 1 (nums .u8 32 f) hx (by rw [nums_len]) ?_ nums_one ?_ ?_ hB ?_
 ·intro j u hj
  obtain ⟨hj2, rfl⟩ := nums_get hj
  rw [Addr.add_lit, Nat.zero_add]
  exact hg.cell j hj2
 ·unfold maxLen; omega
 ·omega
 ·intro v' w1 hown hgrow _
  exact h v' w1 hown (Below.grow hgrow hB (fun q hq => (hD.lt q hq).1)) (fun q hq hne => hgrow.block q hq hne)
theorem ownR_kept {w w' : World} {B : Nat} {e : TypeId} {v : Value} {n : Nat} {xs : List Value} (h : w.ownsRow B e 32 v n xs) (hb : Below w.heap.size w w') : w'.ownsRow B e 32 v n xs := by
 obtain ⟨h1, h2⟩ := h
 refine ⟨h1, ?_⟩
 rcases h2 with h2 | ⟨g, cap, cur, rfl, hb1, hg, hr⟩
 ·exact .inl h2
 ·refine .inr ⟨g, cap, cur, rfl, hb1, ?_, hr⟩
  rw [hb.block g (heap_lt hg)]
  exact hg
end Go.Proofs.YthghcjepdhkfdaaGreatDoor

/-
  Own text. Arrays of 32 bytes in a row.
-/
namespace Go.Proofs.YthghcjepdhkfdaaGreatDoor
open Go.RowKit Go.Proofs
set_option maxRecDepth 100000
theorem sizeR (w : World) : (sizeOf (Tryz.prog.elem 75)).run Tryz.prog w = .ok 32 w := by kernel_rfl
theorem exec_idx32 {a : Act} {o : Oper} {w : World} {x y : Operand} (ho : o.op = .indexAddr 75 x y) {b n c i : Nat} (hx : a.eval x = .slice (some ⟨b, 0, none⟩) n c) (hy : a.eval y = .int .i64 (i : Int)) (hi : i < n) : (execOp a.eval o).run Tryz.prog w = .ok (.value (.pointer (some ⟨b, i * 32, none⟩))) w := by
 unfold execOp
 simp only [ho, hx, hy, Sem.run_bind]
 rw [run_indexAt_slice w 75 _ n c .i64 (i : Int) Tryz.underlying75, if_pos ⟨by omega, by omega⟩, sizeR]
 simp [Addr.add_lit]
structure RowsAt (w : World) (g n i : Nat) (f : Nat → Nat → Int) : Prop where
 ex : ∃ cur, w.heap[g]? = some (.cells cur 22 (0, 0)) ∧ n * 32 ≤ cur.size ∧ ∀ j, i ≤ j → j < n → ∀ q, q < 32 → cur[j * 32 + q]? = some (.int .u8 (f j q))
theorem RowsAt.block {w w' : World} {g n i : Nat} {f : Nat → Nat → Int} (h : RowsAt w g n i f) (e : w'.heap[g]? = w.heap[g]?) : RowsAt w' g n i f := by
 obtain ⟨cur, h1, h2, h3⟩ := h.ex
 exact ⟨cur, e.trans h1, h2, h3⟩
theorem RowsAt.lt {w : World} {g n i : Nat} {f : Nat → Nat → Int} (h : RowsAt w g n i f) : g < w.heap.size := by
 obtain ⟨cur, h1, h2, h3⟩ := h.ex
 exact heap_lt h1
theorem RowsAt.range {w : World} {g n i j : Nat} {f : Nat → Nat → Int} (h : RowsAt w g n i f) (hi : i ≤ j) (hj : j < n) : w.rangeAt g (j * 32) (nums .u8 32 (f j)) := by
 obtain ⟨cur, h1, h2, h3⟩ := h.ex
 intro q v hq
 obtain ⟨hq2, rfl⟩ := nums_get hq
 rw [cell_of_row w g _ _ _ _ h1, h3 j hi hj q hq2]
theorem rowsL_at (f : Nat → Nat → Int) : ∀ n j, j < n → ∀ q, q < 32 → (rowsL f n)[j * 32 + q]? = some (.int .u8 (f j q))
 | 0, j, h, _, _ => by omega
 | n + 1, j, h, q, hq => by
  have hl : (rowsL f n).length = n * 32 := by
   have : ∀ m, (rowsL f m).length = m * 32 := fun m => by
    induction m with
    | zero => rfl
    | succ m ih => rw [rowsL, List.length_append, nums_len, ih]; omega
   exact this n
  rw [rowsL]
  by_cases e : j = n
  ·subst e
   rw [List.getElem?_append_right (by omega), hl, Nat.add_sub_cancel_left, nums_at .u8 32 _ hq]
  ·rw [List.getElem?_append_left (by omega)]
   exact rowsL_at f n j (by omega) q hq
theorem own_rows {w : World} {B n : Nat} {v : Value} {f : Nat → Nat → Int} (h : w.ownsRow B 22 32 v n (rowsL f n)) (hn : 0 < n) : ∃ g cap, v = .slice (some ⟨g, 0, none⟩) n cap ∧ B ≤ g ∧ RowsAt w g n 0 f := by
 rcases h.2 with ⟨_, h0⟩ | ⟨g, cap, cur, rfl, hb, hg, hc, _, hs, ht⟩
 ·omega
 ·refine ⟨g, cap, rfl, hb, cur, hg, by rw [hs]; exact Nat.mul_le_mul_right _ hc, fun j _ hj q hq => ?_⟩
  have h1 := rowsL_at f n j hj q hq
  rw [← ht, List.getElem?_take, if_pos (by omega)] at h1
  simpa using h1
end Go.Proofs.YthghcjepdhkfdaaGreatDoor

/-
  Own text. Digits to the base 256 as functions: their number; what the document's answer for poly does to them. No program is named here.
-/
namespace Go.Proofs.YthghcjepdhkfdaaGreatDoor
open Go.RowKit Go.Proofs
set_option maxRecDepth 100000
def dval (s : Nat → Int) : Nat → Int
 | 0 => 0
 | n + 1 => dval s n + 256 ^ n * s n
theorem p256 (n : Nat) : (0 : Int) < 256 ^ n := Int.pow_pos (by decide)
theorem dval_congr {s t : Nat → Int} : ∀ {n : Nat}, (∀ i, i < n → s i = t i) → dval s n = dval t n
 | 0, _ => rfl
 | n + 1, h => by unfold dval; rw [dval_congr (fun i hi => h i (by omega)), h n (by omega)]
theorem dval_nonneg {s : Nat → Int} : ∀ {n : Nat}, (∀ i, i < n → 0 ≤ s i) → 0 ≤ dval s n
 | 0, _ => by simp [dval]
 | n + 1, h => by
  have h1 := dval_nonneg (n := n) (fun i hi => h i (by omega))
  have h2 := Int.mul_nonneg (Int.le_of_lt (p256 n)) (h n (by omega))
  unfold dval; omega
theorem dval_lt {s : Nat → Int} : ∀ {n : Nat}, (∀ i, i < n → 0 ≤ s i ∧ s i < 256) → dval s n < 256 ^ n
 | 0, _ => by simp [dval]
 | n + 1, h => by
  have h1 := dval_lt (n := n) (fun i hi => h i (by omega))
  have h2 := h n (by omega)
  have h3 : (256 : Int) ^ n * s n ≤ 256 ^ n * 255 := Int.mul_le_mul_of_nonneg_left (by omega) (Int.le_of_lt (p256 n))
  unfold dval
  rw [Int.pow_succ]
  omega
theorem dval_upd {s : Nat → Int} {i : Nat} {v : Int} : ∀ {n : Nat}, i < n → dval (upd s i v) n = dval s n + 256 ^ i * (v - s i)
 | 0, h => by omega
 | n + 1, h => by
  unfold dval
  by_cases e : i = n
  ·subst e
   rw [dval_congr (t := s) (fun j hj => by unfold upd; rw [if_neg (by omega)])]
   unfold upd
   rw [if_pos rfl, Int.mul_sub]
   omega
  ·rw [dval_upd (by omega)]
   unfold upd
   rw [if_neg (fun h => e h.symm)]
   omega
theorem dval_tail {s : Nat → Int} {n : Nat} : ∀ {m : Nat}, n ≤ m → (∀ i, n ≤ i → i < m → s i = 0) → dval s m = dval s n
 | 0, h, _ => by rw [show n = 0 by omega]
 | m + 1, h, hz => by
  by_cases e : n = m + 1
  ·rw [e]
  ·show dval s m + 256 ^ m * s m = dval s n
   rw [dval_tail (m := m) (by omega) (fun i h1 h2 => hz i h1 (by omega)), hz m (by omega) (by omega)]
   simp
theorem dval_shift (s : Nat → Int) (a : Nat) : ∀ (n : Nat), dval s (a + n) = dval s a + 256 ^ a * dval (fun j => s (a + j)) n
 | 0 => by simp [dval]
 | n + 1 => by
  show dval s (a + n) + 256 ^ (a + n) * s (a + n) = dval s a + 256 ^ a * (dval (fun j => s (a + j)) n + 256 ^ n * s (a + n))
  rw [dval_shift s a n, Int.mul_add, Int.pow_add, Int.mul_assoc]
  omega
def Dg (m : Int) (n : Nat) (s : Nat → Int) : Prop := ∀ i, i < n → 0 ≤ s i ∧ s i < m
def P130 : Int := 1361129467683753853853498429727072845819
def W130 : Int := 1361129467683753853853498429727072845824
end Go.Proofs.YthghcjepdhkfdaaGreatDoor

/-
  Own text. What carried of the document's answer for poly gives.
-/
namespace Go.Proofs.YthghcjepdhkfdaaGreatDoor
open Go.RowKit Go.Proofs
set_option maxRecDepth 100000
end Go.Proofs.YthghcjepdhkfdaaGreatDoor

/-
  Own text. What rest of the document's answer for poly gives: the number by 2^130 - 5.
-/
namespace Go.Proofs.YthghcjepdhkfdaaGreatDoor
open Go.RowKit Go.Proofs
set_option maxRecDepth 100000
end Go.Proofs.YthghcjepdhkfdaaGreatDoor

/-
  Own text. The walk of rest of the document's answer for poly.
-/
namespace Go.Proofs.YthghcjepdhkfdaaGreatDoor
open Go.RowKit Go.Proofs
set_option maxRecDepth 100000
end Go.Proofs.YthghcjepdhkfdaaGreatDoor

/-
  Own text. Poly1305 by numbers: r, s, the blocks, the mark.
-/
namespace Go.Proofs.YthghcjepdhkfdaaGreatDoor
open Go.RowKit Go.Proofs
set_option maxRecDepth 100000
def rdig (key : Nat → Int) (i : Nat) : Int := if i % 4 = 3 then key i % 16 else if 0 < i ∧ i % 4 = 0 then key i / 4 * 4 else key i
def rN (key : Nat → Int) : Int := dval (rdig key) 16
def sN (key : Nat → Int) : Int := dval (fun i => key (16 + i)) 16
theorem rdig_b {key : Nat → Int} (hk : Byts 32 key) : Dg 256 16 (rdig key) := fun i hi => by
 have := hk i (by omega)
 unfold rdig
 split
 ·omega
 ·split <;> omega
def blkN (f : Nat → Int) (at' n : Nat) : Int := dval (fun i => f (at' + i)) n + 256 ^ n
def accN (r : Int) (f : Nat → Int) (L : Nat) : Nat → Int
 | 0 => 0
 | k + 1 => (accN r f L k + blkN f (16 * k) (min 16 (L - 16 * k))) * r % P130
def markN (key : Nat → Int) (f : Nat → Int) (L : Nat) : Int := (accN (rN key) f L ((L + 15) / 16) + sN key) % 340282366920938463463374607431768211456
def digN (X : Int) (i : Nat) : Int := X / 256 ^ i % 256
theorem digN_b (X : Int) (i : Nat) : 0 ≤ digN X i ∧ digN X i < 256 := by unfold digN; omega
end Go.Proofs.YthghcjepdhkfdaaGreatDoor

/-
  Own text. Digits to the base 2^26 as functions: their number, carries, products by 2^130 - 5. No program is named here.
-/
namespace Go.Proofs.YthghcjepdhkfdaaGreatDoor
open Go.RowKit Go.Proofs
set_option maxRecDepth 100000
def qv (s : Nat → Int) : Nat → Int
 | 0 => 0
 | n + 1 => qv s n + 67108864 ^ n * s n
theorem qv_congr {s t : Nat → Int} : ∀ {n : Nat}, (∀ i, i < n → s i = t i) → qv s n = qv t n
 | 0, _ => rfl
 | n + 1, h => by unfold qv; rw [qv_congr (fun i hi => h i (by omega)), h n (by omega)]
theorem qv_upd {s : Nat → Int} {i : Nat} {v : Int} : ∀ {n : Nat}, i < n → qv (upd s i v) n = qv s n + 67108864 ^ i * (v - s i)
 | 0, h => by omega
 | n + 1, h => by
  unfold qv
  by_cases e : i = n
  ·subst e
   rw [qv_congr (t := s) (fun j hj => by unfold upd; rw [if_neg (by omega)])]
   unfold upd
   rw [if_pos rfl, Int.mul_sub]
   omega
  ·rw [qv_upd (by omega)]
   unfold upd
   rw [if_neg (fun h => e h.symm)]
   omega
theorem qv_add {s : Nat → Int} {i n : Nat} {v : Int} (h : i < n) : qv (upd s i (s i + v)) n = qv s n + 67108864 ^ i * v := by
 rw [qv_upd h, show s i + v - s i = v by omega]
theorem qv_shift (s : Nat → Int) (a : Nat) : ∀ (n : Nat), qv s (a + n) = qv s a + 67108864 ^ a * qv (fun j => s (a + j)) n
 | 0 => by simp [qv]
 | n + 1 => by
  show qv s (a + n) + 67108864 ^ (a + n) * s (a + n) = qv s a + 67108864 ^ a * (qv (fun j => s (a + j)) n + 67108864 ^ n * s (a + n))
  rw [qv_shift s a n, Int.mul_add, Int.pow_add, Int.mul_assoc]
  omega
theorem qv5 (s : Nat → Int) : qv s 5 = s 0 + 67108864 * s 1 + 4503599627370496 * s 2 + 302231454903657293676544 * s 3 + 20282409603651670423947251286016 * s 4 := by
 simp only [qv, Int.reducePow, Int.pow_zero, Int.one_mul]
 omega
def cc (x : Nat → Int) : Nat → Int
 | 0 => 0
 | i + 1 => (x i + cc x i) / 67108864
def cd (x : Nat → Int) (i : Nat) : Int := (x i + cc x i) % 67108864
theorem cd_b (x : Nat → Int) (i : Nat) : 0 ≤ cd x i ∧ cd x i < 67108864 := by unfold cd; omega
theorem cc_b {x : Nat → Int} {n : Nat} (hx : Dg 9223372036854775808 n x) : ∀ i, i ≤ n → 0 ≤ cc x i ∧ cc x i < 274877906944
 | 0, _ => by simp [cc]
 | i + 1, h => by
  have ih := cc_b hx i (by omega)
  have h1 := hx i (by omega)
  show 0 ≤ (x i + cc x i) / 67108864 ∧ (x i + cc x i) / 67108864 < 274877906944
  omega
theorem qv_cd (x : Nat → Int) : ∀ n, qv (cd x) n + 67108864 ^ n * cc x n = qv x n
 | 0 => by simp [qv, cc]
 | n + 1 => by
  have ih := qv_cd x n
  show qv (cd x) n + 67108864 ^ n * cd x n + 67108864 ^ (n + 1) * ((x n + cc x n) / 67108864) = qv x n + 67108864 ^ n * x n
  have e : cd x n + 67108864 * ((x n + cc x n) / 67108864) = x n + cc x n := by unfold cd; omega
  rw [Int.pow_succ, Int.mul_assoc]
  generalize (x n + cc x n) / 67108864 = q at *
  have e2 : (67108864 : Int) ^ n * (cd x n + 67108864 * q) = 67108864 ^ n * (x n + cc x n) := by rw [e]
  rw [Int.mul_add, Int.mul_add] at e2
  omega
theorem q5 : (67108864 : Int) ^ 5 = W130 := by decide
theorem cd_lt (x : Nat → Int) : 0 ≤ qv (cd x) 5 ∧ qv (cd x) 5 < W130 := by
 have h0 := cd_b x 0
 have h1 := cd_b x 1
 have h2 := cd_b x 2
 have h3 := cd_b x 3
 have h4 := cd_b x 4
 rw [qv5]
 unfold W130
 omega
theorem cd_num (x : Nat → Int) : qv (cd x) 5 = qv x 5 % W130 ∧ cc x 5 = qv x 5 / W130 := by
 have h := qv_cd x 5
 have hb := cd_lt x
 rw [q5] at h
 unfold W130 at *
 omega
structure Sm (x : Nat → Int) : Prop where
 a : ∀ i, i < 5 → 0 ≤ x i
 b : ∀ i, i < 5 → i ≠ 1 → x i < 67108864
 c : x 1 < 67141632
theorem Sm.dg {x : Nat → Int} (h : Sm x) : Dg 67141632 5 x := fun i hi => ⟨h.a i hi, by
 by_cases e : i = 1
 ·subst e; exact h.c
 ·have := h.b i hi e; omega⟩
theorem Sm.lt {x : Nat → Int} (h : Sm x) : 0 ≤ qv x 5 ∧ qv x 5 < W130 + 4398046511104 := by
 have h0 := h.b 0 (by omega) (by omega)
 have h2 := h.b 2 (by omega) (by omega)
 have h3 := h.b 3 (by omega) (by omega)
 have h4 := h.b 4 (by omega) (by omega)
 have h1 := h.c
 have k0 := h.a 0 (by omega)
 have k1 := h.a 1 (by omega)
 have k2 := h.a 2 (by omega)
 have k3 := h.a 3 (by omega)
 have k4 := h.a 4 (by omega)
 rw [qv5]
 unfold W130
 omega
def qadd (x y : Nat → Int) (k i : Nat) : Int := if i < k then x i + y i else x i
theorem qadd_step (s g : Nat → Int) (j : Nat) : upd (qadd s g j) j (qadd s g j j + g j) = qadd s g (j + 1) := by
 funext i
 unfold upd qadd
 by_cases e : i = j
 ·subst e; simp
 ·rw [if_neg e]
  by_cases h : i < j
  ·rw [if_pos h, if_pos (by omega)]
  ·rw [if_neg h, if_neg (by omega)]
theorem qv_sum (x y : Nat → Int) : ∀ n, qv (fun i => x i + y i) n = qv x n + qv y n
 | 0 => rfl
 | n + 1 => by
  have ih := qv_sum x y n
  unfold qv
  rw [ih, Int.mul_add]
  omega
theorem qprod_step (z h r : Nat → Int) (R : Int) (i k : Nat) (hik : i + k < 10) (hz : qv z 10 = qv h i * R + 67108864 ^ i * (h i * qv r k)) : qv (upd z (i + k) (z (i + k) + h i * r k)) 10 = qv h i * R + 67108864 ^ i * (h i * qv r (k + 1)) := by
 rw [qv_add hik, hz]
 show qv h i * R + 67108864 ^ i * (h i * qv r k) + 67108864 ^ (i + k) * (h i * r k) = qv h i * R + 67108864 ^ i * (h i * (qv r k + 67108864 ^ k * r k))
 rw [Int.mul_add, Int.mul_add, Int.pow_add, Int.mul_assoc, ← Int.mul_assoc (67108864 ^ k), Int.mul_comm (67108864 ^ k) (h i), Int.mul_assoc]
 omega
theorem qprod_row (h r : Nat → Int) (i : Nat) : qv h i * qv r 5 + 67108864 ^ i * (h i * qv r 5) = qv h (i + 1) * qv r 5 := by
 show _ = (qv h i + 67108864 ^ i * h i) * qv r 5
 rw [Int.add_mul, Int.mul_assoc]
def fold5 (z : Nat → Int) (k i : Nat) : Int := if i < k then z i + 5 * z (i + 5) else 0
theorem fold5_step (z : Nat → Int) (k : Nat) : upd (fold5 z k) k (z k + 5 * z (k + 5)) = fold5 z (k + 1) := by
 funext i
 unfold upd fold5
 by_cases e : i = k
 ·subst e; simp
 ·rw [if_neg e]
  by_cases h : i < k
  ·rw [if_pos h, if_pos (by omega)]
  ·rw [if_neg h, if_neg (by omega)]
theorem fold5_num (z : Nat → Int) : qv z 10 = qv (fold5 z 5) 5 + P130 * qv (fun j => z (5 + j)) 5 := by
 have h := qv_shift z 5 5
 rw [q5] at h
 rw [show (5 + 5 : Nat) = 10 from rfl] at h
 rw [h, qv5 z, qv5 (fun j => z (5 + j)), qv5 (fold5 z 5)]
 simp only [fold5, show (0 : Nat) < 5 from by decide, show (1 : Nat) < 5 from by decide, show (2 : Nat) < 5 from by decide, show (3 : Nat) < 5 from by decide, show (4 : Nat) < 5 from by decide, if_true, Nat.add_zero, Nat.zero_add, Nat.reduceAdd]
 unfold W130 P130
 omega
def back5 (x : Nat → Int) (i : Nat) : Int := if i = 0 then (cd x 0 + 5 * cc x 5) % 67108864 else if i = 1 then cd x 1 + (cd x 0 + 5 * cc x 5) / 67108864 else cd x i
theorem back5_num {x : Nat → Int} : ∃ q, qv x 5 = qv (back5 x) 5 + P130 * q := by
 have h := qv_cd x 5
 rw [q5, qv5 (cd x)] at h
 refine ⟨cc x 5, ?_⟩
 rw [qv5 (back5 x)]
 simp only [back5, if_true, show (1 : Nat) ≠ 0 from by decide, show (2 : Nat) ≠ 0 from by decide, show (3 : Nat) ≠ 0 from by decide, show (4 : Nat) ≠ 0 from by decide, show (2 : Nat) ≠ 1 from by decide, show (3 : Nat) ≠ 1 from by decide, show (4 : Nat) ≠ 1 from by decide, if_false]
 unfold W130 at h
 unfold P130
 omega
theorem back5_sm {x : Nat → Int} (hx : Dg 9223372036854775808 5 x) : Sm (back5 x) := by
 have hc := cc_b hx 5 (Nat.le_refl _)
 have h0 := cd_b x 0
 have h1 := cd_b x 1
 refine ⟨fun i hi => ?_, fun i hi h => ?_, ?_⟩
 ·have := cd_b x i
  unfold back5
  split
  ·omega
  ·split <;> omega
 ·have := cd_b x i
  unfold back5
  rw [if_neg h]
  split <;> omega
 ·show cd x 1 + (cd x 0 + 5 * cc x 5) / 67108864 < 67141632
  omega
theorem back5_upd (x : Nat → Int) (i : Nat) : upd (upd (upd (cd x) 0 (cd x 0 + 5 * cc x 5)) 1 (cd x 1 + (cd x 0 + 5 * cc x 5) / 67108864)) 0 ((cd x 0 + 5 * cc x 5) % 67108864) i = back5 x i := by
 unfold upd back5
 by_cases e0 : i = 0
 ·simp only [e0, if_true]
 ·by_cases e1 : i = 1
  ·simp only [e1, if_true, if_neg (show ¬ (1 = 0) by decide)]
  ·simp only [if_neg e0, if_neg e1]
theorem ediv0 {a b : Int} (h0 : 0 ≤ a) (h1 : a < b) : a / b = 0 ∧ a % b = a := ⟨Int.ediv_eq_zero_of_lt h0 h1, Int.emod_eq_of_lt h0 h1⟩
theorem ediv1 {a b : Int} (h0 : b ≤ a) (h1 : a < b + b) : a / b = 1 ∧ a % b = a - b := by
 have hb : 0 < b := by omega
 have e : a = (a - b) + b * 1 := by omega
 have e2 := Int.add_mul_ediv_left (a - b) 1 (show b ≠ 0 by omega)
 have e3 := Int.add_mul_emod_self_left (a - b) b 1
 rw [← e] at e2 e3
 have h := ediv0 (a := a - b) (b := b) (by omega) (by omega)
 omega
theorem least_arith {X : Int} (h0 : 0 ≤ X) (h1 : X < W130 + 4398046511104) :
  ((X % W130 + 5 * (X / W130)) % W130 + 5 * (((X % W130 + 5 * (X / W130)) % W130 + 5) / W130)) % W130 = X % P130 := by
 have hW : W130 = P130 + 5 := by decide
 have hP : 4398046511104 + 1000 < P130 := by decide
 generalize W130 = W at *
 generalize P130 = P at *
 by_cases c : X < W
 ·obtain ⟨a1, a2⟩ := ediv0 h0 c
  rw [a1, a2, show X + 5 * 0 = X by omega, a2]
  by_cases d : X + 5 < W
  ·rw [(ediv0 (by omega) d).1, show X + 5 * 0 = X by omega, a2, (ediv0 h0 (show X < P by omega)).2]
  ·rw [(ediv1 (a := X + 5) (b := W) (by omega) (by omega)).1, show X + 5 * 1 = X + 5 by omega, (ediv1 (a := X + 5) (b := W) (by omega) (by omega)).2, (ediv1 (a := X) (b := P) (by omega) (by omega)).2]
   omega
 ·obtain ⟨a1, a2⟩ := ediv1 (a := X) (b := W) (by omega) (by omega)
  rw [a1, a2, (ediv0 (a := X - W + 5 * 1) (b := W) (by omega) (by omega)).2, (ediv0 (a := X - W + 5 * 1 + 5) (b := W) (by omega) (by omega)).1, (ediv0 (a := X - W + 5 * 1 + 5 * 0) (b := W) (by omega) (by omega)).2, (ediv1 (a := X) (b := P) (by omega) (by omega)).2]
  omega
theorem least_num {x x1 rc x3 : Nat → Int} (h : Sm x) (h1 : x1 = upd (cd x) 0 (cd x 0 + 5 * cc x 5)) (hr : rc = upd (cd x1) 0 (cd x1 0 + 5)) (h3 : x3 = upd (cd x1) 0 (cd x1 0 + 5 * cc rc 5)) : qv (cd x3) 5 = qv x 5 % P130 := by
 have hX := h.lt
 have e1 : qv x1 5 = qv (cd x) 5 + 5 * cc x 5 := by rw [h1, qv_add (by decide)]; simp
 have e2 : qv rc 5 = qv (cd x1) 5 + 5 := by rw [hr, qv_add (by decide)]; simp
 have e3 : qv x3 5 = qv (cd x1) 5 + 5 * cc rc 5 := by rw [h3, qv_add (by decide)]; simp
 have n0 := cd_num x
 have n1 := cd_num x1
 have n2 := cd_num rc
 have n3 := cd_num x3
 rw [n3.1, e3, n2.2, e2, n1.1, e1, n0.1, n0.2]
 exact least_arith hX.1 hX.2
theorem cd0_dg {x : Nat → Int} {v : Int} (h0 : 0 ≤ v) (h1 : v < 9223372036854775808) : Dg 9223372036854775808 5 (upd (cd x) 0 v) := fun i _ => by
 have := cd_b x i
 unfold upd
 split <;> omega
end Go.Proofs.YthghcjepdhkfdaaGreatDoor

/-
  Own text. What carried of package poly answers: a contract over the translation.
-/
namespace Go.Proofs.YthghcjepdhkfdaaGreatDoor
open Go.RowKit Go.Proofs
set_option maxRecDepth 100000
theorem isL : IsArr 247 5 := ⟨_, _, Tryz.underlying247, by kernel_rfl⟩
theorem isS2 : IsArr 249 2 := ⟨_, _, Tryz.underlying249, by kernel_rfl⟩
theorem w64 {z : Int} (h0 : 0 ≤ z) (h1 : z < 18446744073709551616) : IntKind.u64.wrap z = z := by rw [IntKind.wrap_u64]; omega
theorem and26 {z : Int} (h0 : 0 ≤ z) (h1 : z < 18446744073709551616) : bits BinOp.and IntKind.u64 z 67108863 = z % 67108864 := by
 obtain ⟨n, rfl⟩ := Int.eq_ofNat_of_zero_le h0
 rw [show (67108863 : Int) = ((67108863 : Nat) : Int) from rfl, bits_and_u64_nat _ _ (by omega) (by omega)]
 have := Nat.and_two_pow_sub_one_eq_mod n 26
 rw [show (2 ^ 26 - 1 : Nat) = 67108863 from rfl] at this
 rw [this]
 omega
def cpart (x : Nat → Int) (i j : Nat) : Int := if j < i then cd x j else x j
theorem cpart_step (x : Nat → Int) (i : Nat) : upd (cpart x i) i (cd x i) = cpart x (i + 1) := by
 funext j
 unfold upd cpart
 by_cases e : j = i
 ·subst e; simp
 ·rw [if_neg e]
  by_cases h : j < i
  ·rw [if_pos h, if_pos (by omega)]
  ·rw [if_neg h, if_neg (by omega)]
set_option maxHeartbeats 4000000 in
theorem pcarried_run (x : Nat → Int) (w : World) (hx : Dg 9223372036854775808 5 x) :
  Calls Tryz.prog 232 #[.agg (WA .u64 5 x)] w fun e w' => e = .returned (.tuple #[.agg (WA .u64 5 (cd x)), .int .u64 (cc x 5)]) ∧ Below w.heap.size w w' := by
 have g0 : ArrAt ((w.alloc (.cells (WA .u64 5 x) 247)).alloc (.cells (WA .u64 5 fun _ => 0) 247)) w.heap.size .u64 247 5 x := heap_alloc2_old w _ _
 have g1 : ArrAt ((w.alloc (.cells (WA .u64 5 x) 247)).alloc (.cells (WA .u64 5 fun _ => 0) 247)) (w.heap.size + 1) .u64 247 5 (fun _ => 0) := heap_alloc2_new w _ _
 have hB : Below w.heap.size w ((w.alloc (.cells (WA .u64 5 x) 247)).alloc (.cells (WA .u64 5 fun _ => 0) 247)) := ((Below.refl _ w).alloc (by simp) _).alloc (by simp) _
 go_enter Tryz.func232, Tryz.ntmps232
 go_wp2_with fail
 go_loopg [4, 6] 5 (fun gm cv iv v => ∃ i : Nat, Hid (gm + i = 5) ∧ iv = .int .i64 (i : Int) ∧ cv = .int .u64 (cc x i) ∧ ArrAt v w.heap.size .u64 247 5 (cpart x i) ∧ ArrAt v (w.heap.size + 1) .u64 247 5 (fun _ => 0) ∧ Below w.heap.size w v)
 case atStart => exact ⟨0, Hid.mk rfl, rfl, rfl, g0, g1, hB⟩
 case round =>
  clear g0 g1 hB
  obtain ⟨i, HI, rfl, rfl, g0, g1, hB⟩ := hrel
  have hi5 : i ≤ 5 := by have := HI.out; omega
  by_cases hil : i < 5
  ·have ck := g0.cell i (by omega)
   have fr := g0.free i
   have hxi := hx i hil
   have hci := cc_b hx i hi5
   have e0 : cpart x i i = x i := by unfold cpart; rw [if_neg (by omega)]
   rw [e0] at ck
   have hw := w64 (z := x i + cc x i) (by omega) (by omega)
   have ha := and26 (z := x i + cc x i) (by omega) (by omega)
   go_wp2_with fail
   go_roundg (5 - (i + 1))
   case rel =>
    refine ⟨i + 1, Hid.mk (by omega), by go_num, rfl, ?_, (g1.other _ (by omega)).other _ (by omega), Below.setCell (Below.setCell hB (by simp) _) (by simp) _⟩
    rw [← cpart_step x i, ← upd_upd _ i (x i + cc x i)]
    exact (g0.set i _ hil).set i _ hil
   case measure => have := HI.out; omega
  ·have hi2 : i = 5 := by omega
   subst hi2
   replace g0 := g0.congr (s' := cd x) (fun j hj => by unfold cpart; rw [if_pos hj])
   go_wp2_with (first | refine ld_arr isL g0 (by rfl) ?_ | (refine st_arr isL g1 (by rfl) (by rfl) ?_; intro w2 g2 o2; refine Hid.out ?_))
   refine Hid.mk ?_
   go_wp2_with fail
   refine bodyPost_ret (v := .tuple #[.agg (WA .u64 5 (cd x)), .int .u64 (cc x 5)]) (results_cellt Tryz.results232 _ _ (w.heap.size + 1) (by rfl) (by rfl) (WA .u64 5 (cd x)) g2 (by kernel_rfl) Tryz.underlying247 rfl) rfl ⟨rfl, ?_⟩
   exact hB.trans (o2.below (by omega))
end Go.Proofs.YthghcjepdhkfdaaGreatDoor

/-
  Own text. What times of package poly answers: a contract over the translation.
-/
namespace Go.Proofs.YthghcjepdhkfdaaGreatDoor
open Go.RowKit Go.Proofs
set_option maxRecDepth 100000
structure Wide (x y : Nat → Int) (i j : Nat) (z : Nat → Int) : Prop where
 b : ∀ k, k < 10 → 0 ≤ z k ∧ z k ≤ ((5 * i + j : Nat) : Int) * 18014398509481984
 num : qv z 10 = qv x i * qv y 5 + 67108864 ^ i * (x i * qv y j)
theorem Wide.step {x y : Nat → Int} {i j : Nat} {z : Nat → Int} (h : Wide x y i j z) (hx : Dg 268435456 5 x) (hy : Dg 67108864 5 y) (hi : i < 5) (hj : j < 5) : Wide x y i (j + 1) (upd z (i + j) (z (i + j) + x i * y j)) ∧ 0 ≤ x i * y j ∧ x i * y j ≤ 18014398509481984 := by
 have h1 := hx i hi
 have h2 := hy j hj
 have p0 : 0 ≤ x i * y j := Int.mul_nonneg h1.1 h2.1
 have p1 : x i * y j ≤ 268435456 * 67108864 := Int.mul_le_mul (by omega) (by omega) h2.1 (by omega)
 refine ⟨⟨fun k hk => ?_, qprod_step z x y _ i j (by omega) h.num⟩, p0, by omega⟩
 have hb := h.b k hk
 unfold upd
 split
 ·rename_i e; subst e; omega
 ·omega
theorem Wide.row {x y : Nat → Int} {i : Nat} {z : Nat → Int} (h : Wide x y i 5 z) : Wide x y (i + 1) 0 z := by
 refine ⟨fun k hk => ?_, ?_⟩
 ·have := h.b k hk; omega
 ·rw [h.num, qprod_row]; simp [qv]
set_option maxHeartbeats 8000000 in
theorem ptimes_run (x y : Nat → Int) (w : World) (hx : Dg 268435456 5 x) (hy : Dg 67108864 5 y) :
  Calls Tryz.prog 227 #[.agg (WA .u64 5 x), .agg (WA .u64 5 y)] w fun e w' => ∃ z, Sm z ∧ (∃ q, qv x 5 * qv y 5 = qv z 5 + P130 * q) ∧ e = .returned (.agg (WA .u64 5 z)) ∧ Below w.heap.size w w' := by
 have g0 : ArrAt ((((w.alloc (.cells (WA .u64 5 x) 247)).alloc (.cells (WA .u64 5 y) 247)).alloc (.cells (WA .u64 5 fun _ => 0) 247)).alloc (.cells (WA .u64 10 fun _ => 0) 259)) w.heap.size .u64 247 5 x := (show ArrAt (((w.alloc (.cells (WA .u64 5 x) 247)).alloc (.cells (WA .u64 5 y) 247)).alloc (.cells (WA .u64 5 fun _ => 0) 247)) w.heap.size .u64 247 5 x from heap_a31 w _ _ _).alloc _
 have g1 : ArrAt ((((w.alloc (.cells (WA .u64 5 x) 247)).alloc (.cells (WA .u64 5 y) 247)).alloc (.cells (WA .u64 5 fun _ => 0) 247)).alloc (.cells (WA .u64 10 fun _ => 0) 259)) (w.heap.size + 1) .u64 247 5 y := (show ArrAt (((w.alloc (.cells (WA .u64 5 x) 247)).alloc (.cells (WA .u64 5 y) 247)).alloc (.cells (WA .u64 5 fun _ => 0) 247)) (w.heap.size + 1) .u64 247 5 y from heap_a32 w _ _ _).alloc _
 have g2 : ArrAt ((((w.alloc (.cells (WA .u64 5 x) 247)).alloc (.cells (WA .u64 5 y) 247)).alloc (.cells (WA .u64 5 fun _ => 0) 247)).alloc (.cells (WA .u64 10 fun _ => 0) 259)) (w.heap.size + 1 + 1) .u64 247 5 (fun _ => 0) := (show ArrAt (((w.alloc (.cells (WA .u64 5 x) 247)).alloc (.cells (WA .u64 5 y) 247)).alloc (.cells (WA .u64 5 fun _ => 0) 247)) (w.heap.size + 1 + 1) .u64 247 5 (fun _ => 0) from heap_a3 w _ _ _).alloc _
 have g3 : ArrAt ((((w.alloc (.cells (WA .u64 5 x) 247)).alloc (.cells (WA .u64 5 y) 247)).alloc (.cells (WA .u64 5 fun _ => 0) 247)).alloc (.cells (WA .u64 10 fun _ => 0) 259)) (w.heap.size + 1 + 1 + 1) .u64 259 10 (fun _ => 0) := heap_a4 w _ _ _ _
 have hB : Below w.heap.size w ((((w.alloc (.cells (WA .u64 5 x) 247)).alloc (.cells (WA .u64 5 y) 247)).alloc (.cells (WA .u64 5 fun _ => 0) 247)).alloc (.cells (WA .u64 10 fun _ => 0) 259)) := ((((Below.refl _ w).alloc (by simp) _).alloc (by simp) _).alloc (by simp; omega) _).alloc (by simp; omega) _
 have HX := Hid.mk hx
 have HY := Hid.mk hy
 clear hx hy
 go_enter Tryz.func227, Tryz.ntmps227
 go_wp2_with fail
 go_loopg [11] 5 (fun gm iv v => ∃ (i : Nat) (z : Nat → Int), Hid (gm + i = 5) ∧ iv = .int .i64 (i : Int) ∧ Hid (Wide x y i 0 z) ∧ ArrAt v (w.heap.size + 1 + 1 + 1) .u64 259 10 z ∧ ArrAt v w.heap.size .u64 247 5 x ∧ ArrAt v (w.heap.size + 1) .u64 247 5 y ∧ ArrAt v (w.heap.size + 1 + 1) .u64 247 5 (fun _ => 0) ∧ Below w.heap.size w v)
 case atStart => exact ⟨0, fun _ => 0, Hid.mk rfl, rfl, Hid.mk ⟨fun k _ => by show 0 ≤ (0 : Int) ∧ (0 : Int) ≤ _; omega, by simp [qv]⟩, g3, g0, g1, g2, hB⟩
 case round =>
  clear g0 g1 g2 g3 hB
  obtain ⟨i, z, HI, rfl, HW, g3, g0, g1, g2, hB⟩ := hrel
  have hi5 : i ≤ 5 := by have := HI.out; omega
  by_cases hil : i < 5
  ·have hdi : decide ((i : Int) < 5) = true := decide_eq_true (by omega)
   go_wp2_with fail
   generalize wr = wy at *
   generalize gk = gy at *
   go_loopg [14] 5 (fun gm jv v => ∃ (j : Nat) (z : Nat → Int), Hid (gm + j = 5) ∧ jv = .int .i64 (j : Int) ∧ Hid (Wide x y i j z) ∧ ArrAt v (w.heap.size + 1 + 1 + 1) .u64 259 10 z ∧ ArrAt v w.heap.size .u64 247 5 x ∧ ArrAt v (w.heap.size + 1) .u64 247 5 y ∧ ArrAt v (w.heap.size + 1 + 1) .u64 247 5 (fun _ => 0) ∧ Below w.heap.size w v)
   case atStart => exact ⟨0, z, Hid.mk rfl, rfl, HW, g3, g0, g1, g2, hB⟩
   case round =>
    clear g0 g1 g2 g3 hB HW
    obtain ⟨j, z, HJ, rfl, HW, g3, g0, g1, g2, hB⟩ := hrel
    have hj5 : j ≤ 5 := by have := HJ.out; omega
    by_cases hjl : j < 5
    ·have cz := g3.cell (i + j) (by omega)
     have fz := g3.free (i + j)
     have cx := g0.cell i hil
     have cy := g1.cell j hjl
     obtain ⟨hst, hp0, hp1⟩ := HW.out.step HX.out HY.out hil hjl
     have HST := Hid.mk hst
     clear hst
     have hzb := HW.out.b (i + j) (by omega)
     have g32 := Hid.mk (g3.set (i + j) (z (i + j) + x i * y j) (by omega))
     obtain ⟨pr, hpr2⟩ : ∃ pr, x i * y j = pr := ⟨_, rfl⟩
     rw [hpr2] at HST hp0 hp1 g32
     generalize hx1 : z (i + j) = x1 at *
     generalize hx2 : x i = x2 at *
     generalize hx3 : y j = x3 at *
     have hw1 := w64 (z := pr) (by omega) (by omega)
     have hw2 := w64 (z := x1 + pr) (by omega) (by omega)
     have hijb : (i : Int) + (j : Int) < 10 := by omega
     clear hzb
     go_wp2_with fail
     go_region
     go_wp2_with fail
     go_roundg (5 - (j + 1))
     case rel => exact ⟨j + 1, _, Hid.mk (by omega), by go_num, HST, g32.out, g0.other _ (by omega), g1.other _ (by omega), g2.other _ (by omega), (Below.setCell hB (p := ⟨w.heap.size + 1 + 1 + 1, i + j, none⟩) (by simp; omega) _).drew⟩
     case measure => have := HJ.out; omega
    ·have hj2 : j = 5 := by omega
     subst hj2
     have HW2 := Hid.mk HW.out.row
     clear HW HJ hjl hj5
     go_wp2_with fail
     go_roundg (5 - (i + 1))
     case rel => exact ⟨i + 1, z, Hid.mk (by omega), by go_num, HW2, g3, g0, g1, g2, hB⟩
     case measure => have := HI.out; omega
  ·have hi2 : i = 5 := by omega
   subst hi2
   have HZB : Hid (∀ k, k < 10 → 0 ≤ z k ∧ z k ≤ 450359962737049600) := Hid.mk (fun k hk => by have := HW.out.b k hk; omega)
   have HN : Hid (qv x 5 * qv y 5 = qv z 10) := Hid.mk (by rw [HW.out.num]; simp [qv])
   clear HW HI hil hi5
   have gn : ∀ o, o = Obj.cells (WA .u64 5 fun _ => 0) 247 (0, 0) → ArrAt (wr.alloc o) wr.heap.size .u64 247 5 (fun _ => 0) := fun o ho => by rw [ho]; exact heap_alloc_new wr _
   have hz3 := g3.lt
   have hBS := hB.size
   generalize gk = gz at *
   generalize wr = wz at *
   go_wp2_with fail
   go_loopg [33] 5 (fun gm iv v => ∃ i : Nat, Hid (gm + i = 5) ∧ iv = .int .i64 (i : Int) ∧ ArrAt v wz.heap.size .u64 247 5 (fold5 z i) ∧ ArrAt v (w.heap.size + 1 + 1 + 1) .u64 259 10 z ∧ ArrAt v (w.heap.size + 1 + 1) .u64 247 5 (fun _ => 0) ∧ Below w.heap.size w v)
   case atStart => exact ⟨0, Hid.mk rfl, rfl, (gn _ rfl).congr (fun j _ => by unfold fold5; rw [if_neg (by omega)]), g3.alloc _, g2.alloc _, hB.alloc (by omega) _⟩
   case round =>
    clear g0 g1 g2 g3 hB gn
    obtain ⟨i, HI, rfl, g4, g3, g2, hB⟩ := hrel
    have hi5 : i ≤ 5 := by have := HI.out; omega
    by_cases hil : i < 5
    ·have c0 := g3.cell i (by omega)
     have c5 := g3.cell (i + 5) (by omega)
     have c4 := g4.cell i hil
     have f4 := g4.free i
     have hb0 := HZB.out i (by omega)
     have hb5 := HZB.out (i + 5) (by omega)
     have g42 := Hid.mk (g4.set i (z i + 5 * z (i + 5)) hil)
     rw [fold5_step] at g42
     have hi10 : (i : Int) + 5 < 10 := by omega
     have hi10' : (i : Int) < 10 := by omega
     generalize hx1 : z i = x1 at *
     generalize hx2 : z (i + 5) = x2 at *
     have hw1 := w64 (z := 5 * x2) (by omega) (by omega)
     have hw2 := w64 (z := x1 + 5 * x2) (by omega) (by omega)
     go_wp2_with fail
     go_region
     go_wp2_with fail
     go_roundg (5 - (i + 1))
     case rel => exact ⟨i + 1, Hid.mk (by omega), by go_num, g42.out, g3.other _ (by omega), g2.other _ (by omega), (Below.setCell hB (p := ⟨wz.heap.size, i, none⟩) (by simp; omega) _).drew⟩
     case measure => have := HI.out; omega
    ·have hi2 : i = 5 := by omega
     subst hi2
     have HF : Hid (Dg 9223372036854775808 5 (fold5 z 5)) := Hid.mk (fun k hk => by
      have h1 := HZB.out k (by omega)
      have h2 := HZB.out (k + 5) (by omega)
      unfold fold5
      rw [if_pos hk]
      omega)
     have HQ := Hid.mk (And.intro (fold5_num z) (back5_num (x := fold5 z 5)))
     generalize fold5 z 5 = f at *
     clear HI hil hi5
     go_wp2_with (refine ld_arr isL g4 (by rfl) ?_)
     refine (pcarried_run f wr HF.out).mono ?_
     rintro e v5 ⟨rfl, hb5⟩
     have hz4 := g4.lt
     replace g4 := g4.kept hb5
     replace g2 := g2.kept hb5
     replace hB := hB.trans (hb5.mono hB.size)
     clear g3 hb5
     go_wp2_with (refine st_arr isL g4 (by rfl) (by rfl) ?_; intro w6 g5 o5; refine Hid.out ?_)
     replace g2 := g2.only o5 (by omega)
     replace hB := hB.trans (o5.below (by omega))
     clear o5 g4
     have hc := cc_b HF.out 5 (Nat.le_refl _)
     have h0 := cd_b f 0
     have h1 := cd_b f 1
     have c0 := g5.cell 0 (by decide)
     have c1 := g5.cell 1 (by decide)
     have f0 := g5.free 0
     have f1 := g5.free 1
     have gF := (((g5.set 0 (cd f 0 + 5 * cc f 5) (by decide)).set 1 (cd f 1 + (cd f 0 + 5 * cc f 5) / 67108864) (by decide)).set 0 ((cd f 0 + 5 * cc f 5) % 67108864) (by decide)).congr (s' := back5 f) (fun i _ => back5_upd f i)
     have hBF := Below.setCell (p := ⟨wz.heap.size, 0, none⟩) (Below.setCell (p := ⟨wz.heap.size, 1, none⟩) (Below.setCell (p := ⟨wz.heap.size, 0, none⟩) hB (by simp; omega) (.int .u64 (cd f 0 + 5 * cc f 5))) (by simp; omega) (.int .u64 (cd f 1 + (cd f 0 + 5 * cc f 5) / 67108864))) (by simp; omega) (.int .u64 ((cd f 0 + 5 * cc f 5) % 67108864))
     have gR := ((g2.other (g := wz.heap.size) (i := 0) (.int .u64 (cd f 0 + 5 * cc f 5)) (by omega)).other (g := wz.heap.size) (i := 1) (.int .u64 (cd f 1 + (cd f 0 + 5 * cc f 5) / 67108864)) (by omega)).other (g := wz.heap.size) (i := 0) (.int .u64 ((cd f 0 + 5 * cc f 5) % 67108864)) (by omega)
     have hF := back5_sm HF.out
     clear g2 hB g5
     generalize cd f 0 = d0 at *
     generalize cd f 1 = d1 at *
     generalize cc f 5 = c5 at *
     have hw1 := w64 (z := 5 * c5) (by omega) (by omega)
     have hw2 := w64 (z := d0 + 5 * c5) (by omega) (by omega)
     have hw3 := w64 (z := d1 + (d0 + 5 * c5) / 67108864) (by omega) (by omega)
     have ha := and26 (z := d0 + 5 * c5) (by omega) (by omega)
     refine Hid.mk ?_
     go_wp2_with (first | refine ld_arr isL gF (by rfl) ?_ | (refine st_arr isL gR (by rfl) (by rfl) ?_; intro w7 g7 o7; refine Hid.out ?_))
     refine Hid.mk ?_
     go_wp2_with fail
     refine bodyPost_ret (v := .agg (WA .u64 5 (back5 f))) (res_arr Tryz.results227 isL g7 (by rfl)) rfl ⟨back5 f, hF, ?_, rfl, hBF.trans (o7.below (by omega))⟩
     obtain ⟨q, hq⟩ := HQ.out.2
     refine ⟨q + qv (fun j => z (5 + j)) 5, ?_⟩
     rw [HN.out, HQ.out.1, hq, Int.mul_add]
     omega
end Go.Proofs.YthghcjepdhkfdaaGreatDoor

/-
  Own text. What least of package poly answers: a contract over the translation.
-/
namespace Go.Proofs.YthghcjepdhkfdaaGreatDoor
open Go.RowKit Go.Proofs
set_option maxRecDepth 100000
set_option maxHeartbeats 8000000 in
theorem pleast_run (x : Nat → Int) (w : World) (hx : Sm x) :
  Calls Tryz.prog 230 #[.agg (WA .u64 5 x)] w fun e w' => ∃ z, Dg 67108864 5 z ∧ qv z 5 = qv x 5 % P130 ∧ e = .returned (.agg (WA .u64 5 z)) ∧ Below w.heap.size w w' := by
 have g0 : ArrAt ((w.alloc (.cells (WA .u64 5 x) 247)).alloc (.cells (WA .u64 5 fun _ => 0) 247)) w.heap.size .u64 247 5 x := heap_alloc2_old w _ _
 have g1 : ArrAt ((w.alloc (.cells (WA .u64 5 x) 247)).alloc (.cells (WA .u64 5 fun _ => 0) 247)) (w.heap.size + 1) .u64 247 5 (fun _ => 0) := heap_alloc2_new w _ _
 have hB : Below w.heap.size w ((w.alloc (.cells (WA .u64 5 x) 247)).alloc (.cells (WA .u64 5 fun _ => 0) 247)) := ((Below.refl _ w).alloc (by simp) _).alloc (by simp) _
 obtain ⟨x1, h1⟩ : ∃ x1, x1 = upd (cd x) 0 (cd x 0 + 5 * cc x 5) := ⟨_, rfl⟩
 obtain ⟨rc, hr⟩ : ∃ rc, rc = upd (cd x1) 0 (cd x1 0 + 5) := ⟨_, rfl⟩
 obtain ⟨x3, h3⟩ : ∃ x3, x3 = upd (cd x1) 0 (cd x1 0 + 5 * cc rc 5) := ⟨_, rfl⟩
 have HN := Hid.mk (least_num hx h1 hr h3)
 have dx : Dg 9223372036854775808 5 x := fun i hi => by have := hx.dg i hi; omega
 have hcx := cc_b dx 5 (Nat.le_refl _)
 have hd := cd_b x 0
 have d1 : Dg 9223372036854775808 5 x1 := by rw [h1]; exact cd0_dg (by omega) (by omega)
 have hd1 := cd_b x1 0
 have dr : Dg 9223372036854775808 5 rc := by rw [hr]; exact cd0_dg (by omega) (by omega)
 have hcr := cc_b dr 5 (Nat.le_refl _)
 have d3 : Dg 9223372036854775808 5 x3 := by rw [h3]; exact cd0_dg (by omega) (by omega)
 have hw1 := w64 (z := 5 * cc x 5) (by omega) (by omega)
 have hw2 := w64 (z := cd x 0 + 5 * cc x 5) (by omega) (by omega)
 have hw3 := w64 (z := cd x1 0 + 5) (by omega) (by omega)
 have hw4 := w64 (z := 5 * cc rc 5) (by omega) (by omega)
 have hw5 := w64 (z := cd x1 0 + 5 * cc rc 5) (by omega) (by omega)
 have HD := Hid.mk (And.intro dx (And.intro d1 (And.intro dr d3)))
 have H1 := Hid.mk h1
 have HR := Hid.mk hr
 have H3 := Hid.mk h3
 clear dx d1 dr d3 hd hd1 hcx hcr h1 hr h3 hx
 go_enter Tryz.func230, Tryz.ntmps230
 go_wp2_with (refine ld_arr isL g0 (by rfl) ?_)
 refine (pcarried_run x _ HD.out.1).mono ?_
 rintro e v1 ⟨rfl, hb⟩
 replace g0 := g0.kept hb
 replace g1 := g1.kept hb
 replace hB := hB.trans (hb.mono hB.size)
 clear hb
 go_wp2_with (refine st_arr isL g0 (by rfl) (by rfl) ?_; intro v2 g2 o2; refine Hid.out ?_)
 replace g0 := g2
 replace g1 := g1.only o2 (by omega)
 replace hB := hB.trans (o2.below (Nat.le_refl _))
 clear o2 g2
 have c0 := g0.cell 0 (by decide)
 have f0 := g0.free 0
 replace g0 := g0.set 0 (cd x 0 + 5 * cc x 5) (by decide)
 rw [← H1.out] at g0
 replace g1 := g1.other (g := w.heap.size) (i := 0) (.int .u64 (cd x 0 + 5 * cc x 5)) (by omega)
 replace hB := Below.setCell (p := ⟨w.heap.size, 0, none⟩) hB (by simp) (.int .u64 (cd x 0 + 5 * cc x 5))
 refine Hid.mk ?_
 go_wp2_with (refine ld_arr isL g0 (by rfl) ?_)
 refine (pcarried_run x1 _ HD.out.2.1).mono ?_
 rintro e v3 ⟨rfl, hb⟩
 clear c0 f0
 replace g0 := g0.kept hb
 replace g1 := g1.kept hb
 replace hB := hB.trans (hb.mono hB.size)
 clear hb
 go_wp2_with (refine st_arr isL g0 (by rfl) (by rfl) ?_; intro v4 g2 o2; refine Hid.out ?_)
 replace g0 := g2
 replace g1 := g1.only o2 (by omega)
 replace hB := hB.trans (o2.below (Nat.le_refl _))
 clear o2 g2
 have gn : ∀ o, o = Obj.cells (WA .u64 5 fun _ => 0) 247 (0, 0) → ArrAt (v4.alloc o) v4.heap.size .u64 247 5 (fun _ => 0) := fun o ho => by rw [ho]; exact heap_alloc_new v4 _
 have hz := g1.lt
 refine Hid.mk ?_
 go_wp2_with (first | refine ld_arr isL g0 (by rfl) ?_ | (refine st_arr isL (gn _ rfl) (by rfl) (by rfl) ?_; intro v5 g2 o2; refine Hid.out ?_))
 replace g0 := (g0.alloc _).only o2 (by omega)
 replace g1 := (g1.alloc _).only o2 (by omega)
 have hz2 := hB.size
 replace hB := (hB.alloc (by omega) _).trans (o2.below (by omega))
 clear o2
 clear gn
 have c0 := g2.cell 0 (by decide)
 have f0 := g2.free 0
 replace g2 := g2.set 0 (cd x1 0 + 5) (by decide)
 rw [← HR.out] at g2
 replace g0 := g0.other (g := v4.heap.size) (i := 0) (.int .u64 (cd x1 0 + 5)) (by omega)
 replace g1 := g1.other (g := v4.heap.size) (i := 0) (.int .u64 (cd x1 0 + 5)) (by omega)
 replace hB := Below.setCell (p := ⟨v4.heap.size, 0, none⟩) hB (by simp; omega) (.int .u64 (cd x1 0 + 5))
 refine Hid.mk ?_
 go_wp2_with (refine ld_arr isL g2 (by rfl) ?_)
 refine (pcarried_run rc _ HD.out.2.2.1).mono ?_
 rintro e v6 ⟨rfl, hb⟩
 clear c0 f0 g2
 replace g0 := g0.kept hb
 replace g1 := g1.kept hb
 replace hB := hB.trans (hb.mono hB.size)
 clear hb
 have c0 := g0.cell 0 (by decide)
 have f0 := g0.free 0
 replace g0 := g0.set 0 (cd x1 0 + 5 * cc rc 5) (by decide)
 rw [← H3.out] at g0
 replace g1 := g1.other (g := w.heap.size) (i := 0) (.int .u64 (cd x1 0 + 5 * cc rc 5)) (by omega)
 replace hB := Below.setCell (p := ⟨w.heap.size, 0, none⟩) hB (by simp) (.int .u64 (cd x1 0 + 5 * cc rc 5))
 go_wp2_with (refine ld_arr isL g0 (by rfl) ?_)
 refine (pcarried_run x3 _ HD.out.2.2.2).mono ?_
 rintro e v7 ⟨rfl, hb⟩
 clear c0 f0
 replace g0 := g0.kept hb
 replace g1 := g1.kept hb
 replace hB := hB.trans (hb.mono hB.size)
 clear hb
 go_wp2_with (refine st_arr isL g0 (by rfl) (by rfl) ?_; intro v8 g2 o2; refine Hid.out ?_)
 replace g0 := g2
 replace g1 := g1.only o2 (by omega)
 replace hB := hB.trans (o2.below (Nat.le_refl _))
 clear o2 g2
 refine Hid.mk ?_
 go_wp2_with (first | refine ld_arr isL g0 (by rfl) ?_ | (refine st_arr isL g1 (by rfl) (by rfl) ?_; intro v9 g2 o2; refine Hid.out ?_))
 refine Hid.mk ?_
 go_wp2_with fail
 exact bodyPost_ret (v := .agg (WA .u64 5 (cd x3))) (res_arr Tryz.results230 isL g2 (by rfl)) rfl ⟨cd x3, fun i _ => cd_b x3 i, HN.out, rfl, hB.trans (o2.below (by omega))⟩
end Go.Proofs.YthghcjepdhkfdaaGreatDoor

/-
  Own text. What word, putWord and limbsOf of package poly answer: contracts over the translation.
-/
namespace Go.Proofs.YthghcjepdhkfdaaGreatDoor
open Go.RowKit Go.Proofs
set_option maxRecDepth 100000
def Byte (x : Int) : Prop := 0 ≤ x ∧ x < 256
theorem or_shift (a b : Int) (k : Nat) (ha : 0 ≤ a) (hb : 0 ≤ b) (hk : a < 2 ^ k) (hs : a + b * 2 ^ k < 18446744073709551616) :
  bits BinOp.or IntKind.u64 a (b * 2 ^ k) = a + b * 2 ^ k := by
 obtain ⟨A, rfl⟩ := Int.eq_ofNat_of_zero_le ha
 obtain ⟨B, rfl⟩ := Int.eq_ofNat_of_zero_le hb
 have e : ((B : Int) * 2 ^ k) = ((B * 2 ^ k : Nat) : Int) := by rw [Int.natCast_mul, Int.natCast_pow]; rfl
 have hA : A < 2 ^ k := by exact_mod_cast hk
 rw [e] at hs ⊢
 rw [bits_or_u64_nat _ _ (by omega) (by omega), Nat.or_comm, Nat.mul_comm, ← Nat.two_pow_add_eq_or_of_lt hA B]
 omega
theorem wrap_u64_id (z : Int) (h0 : 0 ≤ z) (h1 : z < 18446744073709551616) : IntKind.u64.wrap z = z := w64 h0 h1
theorem word_num (x0 x1 x2 x3 x4 x5 x6 x7 : Int) (h0 : Byte x0) (h1 : Byte x1) (h2 : Byte x2) (h3 : Byte x3) (h4 : Byte x4) (h5 : Byte x5) (h6 : Byte x6) (h7 : Byte x7) :
  bits BinOp.or IntKind.u64
   (bits BinOp.or IntKind.u64
    (bits BinOp.or IntKind.u64
     (bits BinOp.or IntKind.u64
      (bits BinOp.or IntKind.u64
       (bits BinOp.or IntKind.u64
        (bits BinOp.or IntKind.u64 (IntKind.u64.wrap x0)
         (IntKind.u64.wrap (IntKind.u64.wrap x1 * 256)))
        (IntKind.u64.wrap (IntKind.u64.wrap x2 * 65536)))
       (IntKind.u64.wrap (IntKind.u64.wrap x3 * 16777216)))
      (IntKind.u64.wrap (IntKind.u64.wrap x4 * 4294967296)))
     (IntKind.u64.wrap (IntKind.u64.wrap x5 * 1099511627776)))
    (IntKind.u64.wrap (IntKind.u64.wrap x6 * 281474976710656)))
   (IntKind.u64.wrap (IntKind.u64.wrap x7 * 72057594037927936)) =
  x0 + x1 * 256 + x2 * 65536 + x3 * 16777216 + x4 * 4294967296 + x5 * 1099511627776 + x6 * 281474976710656 + x7 * 72057594037927936 := by
 unfold Byte at *
 rw [wrap_u64_id x0 (by omega) (by omega), wrap_u64_id x1 (by omega) (by omega), wrap_u64_id x2 (by omega) (by omega), wrap_u64_id x3 (by omega) (by omega),
  wrap_u64_id x4 (by omega) (by omega), wrap_u64_id x5 (by omega) (by omega), wrap_u64_id x6 (by omega) (by omega), wrap_u64_id x7 (by omega) (by omega)]
 rw [wrap_u64_id (x1 * 256) (by omega) (by omega), wrap_u64_id (x2 * 65536) (by omega) (by omega), wrap_u64_id (x3 * 16777216) (by omega) (by omega),
  wrap_u64_id (x4 * 4294967296) (by omega) (by omega), wrap_u64_id (x5 * 1099511627776) (by omega) (by omega), wrap_u64_id (x6 * 281474976710656) (by omega) (by omega), wrap_u64_id (x7 * 72057594037927936) (by omega) (by omega)]
 rw [show bits BinOp.or IntKind.u64 x0 (x1 * 256) = x0 + x1 * 256 from or_shift _ _ 8 (by omega) (by omega) (by omega) (by omega)]
 rw [show bits BinOp.or IntKind.u64 (x0 + x1 * 256) (x2 * 65536) = x0 + x1 * 256 + x2 * 65536 from or_shift _ _ 16 (by omega) (by omega) (by omega) (by omega)]
 rw [show bits BinOp.or IntKind.u64 (x0 + x1 * 256 + x2 * 65536) (x3 * 16777216) = x0 + x1 * 256 + x2 * 65536 + x3 * 16777216 from or_shift _ _ 24 (by omega) (by omega) (by omega) (by omega)]
 rw [show bits BinOp.or IntKind.u64 (x0 + x1 * 256 + x2 * 65536 + x3 * 16777216) (x4 * 4294967296) = x0 + x1 * 256 + x2 * 65536 + x3 * 16777216 + x4 * 4294967296 from or_shift _ _ 32 (by omega) (by omega) (by omega) (by omega)]
 rw [show bits BinOp.or IntKind.u64 (x0 + x1 * 256 + x2 * 65536 + x3 * 16777216 + x4 * 4294967296) (x5 * 1099511627776) = x0 + x1 * 256 + x2 * 65536 + x3 * 16777216 + x4 * 4294967296 + x5 * 1099511627776 from or_shift _ _ 40 (by omega) (by omega) (by omega) (by omega)]
 rw [show bits BinOp.or IntKind.u64 (x0 + x1 * 256 + x2 * 65536 + x3 * 16777216 + x4 * 4294967296 + x5 * 1099511627776) (x6 * 281474976710656) = x0 + x1 * 256 + x2 * 65536 + x3 * 16777216 + x4 * 4294967296 + x5 * 1099511627776 + x6 * 281474976710656 from or_shift _ _ 48 (by omega) (by omega) (by omega) (by omega)]
 exact or_shift _ _ 56 (by omega) (by omega) (by omega) (by omega)
def V8 (x0 x1 x2 x3 x4 x5 x6 x7 : Int) : Int := x0 + x1 * 256 + x2 * 65536 + x3 * 16777216 + x4 * 4294967296 + x5 * 1099511627776 + x6 * 281474976710656 + x7 * 72057594037927936
theorem ret_int {k : IntKind} {a b : Int} (h : a = b) : Ending.returned (.int k a) = .returned (.int k b) := by rw [h]
set_option maxHeartbeats 1000000 in
theorem word_any (b off cap : Nat) (x0 x1 x2 x3 x4 x5 x6 x7 : Int) (w : World) (h0 : Byte x0) (h1 : Byte x1) (h2 : Byte x2) (h3 : Byte x3) (h4 : Byte x4) (h5 : Byte x5) (h6 : Byte x6) (h7 : Byte x7)
  (c0 : w.cell? ⟨b, off, none⟩ = some (.int .u8 x0)) (c1 : w.cell? ⟨b, off + 1, none⟩ = some (.int .u8 x1))
  (c2 : w.cell? ⟨b, off + 2, none⟩ = some (.int .u8 x2)) (c3 : w.cell? ⟨b, off + 3, none⟩ = some (.int .u8 x3))
  (c4 : w.cell? ⟨b, off + 4, none⟩ = some (.int .u8 x4)) (c5 : w.cell? ⟨b, off + 5, none⟩ = some (.int .u8 x5))
  (c6 : w.cell? ⟨b, off + 6, none⟩ = some (.int .u8 x6)) (c7 : w.cell? ⟨b, off + 7, none⟩ = some (.int .u8 x7)) :
  Calls Tryz.prog 221 #[.slice (some ⟨b, off, none⟩) 8 cap] w fun e w' => e = .returned (.int .u64 (V8 x0 x1 x2 x3 x4 x5 x6 x7)) ∧ ∃ n, w' = w.drewN n := by
 go_enter Tryz.func221, Tryz.ntmps221
 go_wp2
 go_quiet (fail)
 go_wp2
 go_ret
 exact ⟨ret_int (word_num x0 x1 x2 x3 x4 x5 x6 x7 h0 h1 h2 h3 h4 h5 h6 h7), _, rfl⟩
theorem V8_dval (s : Nat → Int) : V8 (s 0) (s 1) (s 2) (s 3) (s 4) (s 5) (s 6) (s 7) = dval s 8 := by
 simp only [dval, V8, Int.reducePow, Int.pow_zero]
 omega
theorem pword_run (b off cap : Nat) (s : Nat → Int) (w : World) (hs : Byts 8 s) (hc : ∀ j, j < 8 → w.cell? ⟨b, off + j, none⟩ = some (.int .u8 (s j))) :
  Calls Tryz.prog 221 #[.slice (some ⟨b, off, none⟩) 8 cap] w fun e w' => e = .returned (.int .u64 (dval s 8)) ∧ Below w.heap.size w w' := by
 rw [← V8_dval]
 refine (word_any b off cap _ _ _ _ _ _ _ _ w (hs 0 (by decide)) (hs 1 (by decide)) (hs 2 (by decide)) (hs 3 (by decide)) (hs 4 (by decide)) (hs 5 (by decide)) (hs 6 (by decide)) (hs 7 (by decide))
  (hc 0 (by decide)) (hc 1 (by decide)) (hc 2 (by decide)) (hc 3 (by decide)) (hc 4 (by decide)) (hc 5 (by decide)) (hc 6 (by decide)) (hc 7 (by decide))).mono ?_
 rintro e w' ⟨rfl, n, rfl⟩
 exact ⟨rfl, ⟨rfl, rfl, rfl, Nat.le_refl _, fun _ _ => rfl⟩⟩
theorem dval8_b {s : Nat → Int} (hs : Byts 8 s) : 0 ≤ dval s 8 ∧ dval s 8 < 18446744073709551616 := by
 have h1 := dval_nonneg (s := s) (n := 8) (fun i hi => (hs i hi).1)
 have h2 := dval_lt (s := s) (n := 8) hs
 rw [show (256 : Int) ^ 8 = 18446744073709551616 from by decide] at h2
 exact ⟨h1, h2⟩
def pk5 (a0 a1 a2 a3 a4 : Int) : Nat → Int
 | 0 => a0
 | 1 => a1
 | 2 => a2
 | 3 => a3
 | 4 => a4
 | _ => 0
theorem or_and (low high : Int) (hl : 0 ≤ low ∧ low < 18446744073709551616) :
  bits BinOp.and IntKind.u64 (bits BinOp.or IntKind.u64 (low / 4503599627370496) (IntKind.u64.wrap (high * 4096))) 67108863 = low / 4503599627370496 + high % 16384 * 4096 := by
 have e : IntKind.u64.wrap (high * 4096) = (high % 4503599627370496) * 2 ^ 12 := by rw [IntKind.wrap_u64]; omega
 rw [e, or_shift _ _ 12 (by omega) (by omega) (by omega) (by omega), and26 (by omega) (by omega)]
 omega
def lofs (low high top : Int) : Nat → Int := pk5 (low % 67108864) (low / 67108864 % 67108864) (low / 4503599627370496 + high % 16384 * 4096) (high / 16384 % 67108864) (high / 1099511627776 + top * 16777216)
theorem lofs_dg {low high top : Int} (hl : 0 ≤ low ∧ low < 18446744073709551616) (hh : 0 ≤ high ∧ high < 18446744073709551616) (ht : 0 ≤ top ∧ top < 4) : Dg 67108864 5 (lofs low high top) := by
 intro i hi
 match i, hi with
 | 0, _ => show 0 ≤ low % 67108864 ∧ low % 67108864 < 67108864; omega
 | 1, _ => show 0 ≤ low / 67108864 % 67108864 ∧ low / 67108864 % 67108864 < 67108864; omega
 | 2, _ => show 0 ≤ low / 4503599627370496 + high % 16384 * 4096 ∧ low / 4503599627370496 + high % 16384 * 4096 < 67108864; omega
 | 3, _ => show 0 ≤ high / 16384 % 67108864 ∧ high / 16384 % 67108864 < 67108864; omega
 | 4, _ => show 0 ≤ high / 1099511627776 + top * 16777216 ∧ high / 1099511627776 + top * 16777216 < 67108864; omega
theorem lofs_num (low high top : Int) : qv (lofs low high top) 5 = low + 18446744073709551616 * high + 340282366920938463463374607431768211456 * top := by
 rw [qv5]
 simp only [lofs, pk5]
 omega
set_option maxHeartbeats 4000000 in
theorem limbsOf_run (low high top : Int) (w : World) (hl : 0 ≤ low ∧ low < 18446744073709551616) (hh : 0 ≤ high ∧ high < 18446744073709551616) (ht : 0 ≤ top ∧ top < 4) :
  Calls Tryz.prog 220 #[.int .u64 low, .int .u64 high, .int .u64 top] w fun e w' => e = .returned (.agg (WA .u64 5 (lofs low high top))) ∧ Below w.heap.size w w' := by
 go_enter Tryz.func220, Tryz.ntmps220
 go_wp2_with fail
 have e2 := or_and low high hl
 have e4 : bits BinOp.or IntKind.u64 (high / 1099511627776) (top * 16777216) = high / 1099511627776 + top * 16777216 := or_shift _ _ 24 (by omega) (by omega) (by omega) (by omega)
 have e0 := and26 (z := low) (by omega) (by omega)
 have e1 := and26 (z := low / 67108864) (by omega) (by omega)
 have e3 := and26 (z := high / 16384) (by omega) (by omega)
 rw [e0, e1, e2, e3, e4]
 exact bodyPost_ret (v := .agg (WA .u64 5 (lofs low high top))) (res_arr Tryz.results220 isL (show ArrAt _ w.heap.size .u64 247 5 (lofs low high top) from heap_alloc_new w _) (by rfl)) rfl ⟨rfl, (Below.refl _ w).alloc (Nat.le_refl _) _⟩
theorem dval_digN8 (lo hi : Int) (i : Nat) (h : i < 8) : digN lo i = digN (lo + 18446744073709551616 * hi) i := by
 unfold digN
 have e : (18446744073709551616 : Int) = 256 ^ i * (256 * 256 ^ (7 - i)) := by
  rw [show (18446744073709551616 : Int) = 256 ^ 8 by decide, ← Int.mul_assoc, Int.mul_assoc, show (256 : Int) * 256 ^ (7 - i) = 256 ^ (8 - i) from by rw [show 8 - i = (7 - i) + 1 by omega, Int.pow_succ, Int.mul_comm], ← Int.pow_add]
  congr 1
  omega
 rw [e, Int.mul_assoc, Int.add_mul_ediv_left _ _ (Int.ne_of_gt (p256 i)), Int.mul_assoc]
 omega
end Go.Proofs.YthghcjepdhkfdaaGreatDoor

