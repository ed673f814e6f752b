/-
  Own text. Words of 32 bits as whole numbers: sums, turns, quarter rounds; rows of numbers.
-/
import Derived.Test.YtfgebcemdjplnaaBs
import Derived.OpenShut
namespace Go.Proofs.Ytfgebcemdjplnaa
open Go.RowKit Go.Proofs
def W32 (x : Int) : Prop := 0 ≤ x ∧ x < 4294967296
def addw (x y : Int) : Int := (x + y) % 4294967296
def xorw (x y : Int) : Int := ((x.toNat ^^^ y.toNat : Nat) : Int)
def rotw (x : Int) (n : Nat) : Int := ((x.toNat * 2 ^ n % 4294967296 ||| x.toNat / 2 ^ (32 - n) : Nat) : Int)
theorem addw_w (x y : Int) : W32 (addw x y) := by unfold W32 addw; omega
theorem xorw_w {x y : Int} (hx : W32 x) (hy : W32 y) : W32 (xorw x y) := by
  unfold W32 at *
  have := Nat.xor_lt_two_pow (x := x.toNat) (y := y.toNat) (n := 32) (by omega) (by omega)
  unfold xorw
  omega
theorem rotw_w {x : Int} (n : Nat) (hx : W32 x) : W32 (rotw x n) := by
  unfold W32 at *
  have h1 : x.toNat / 2 ^ (32 - n) < 2 ^ 32 := Nat.lt_of_le_of_lt (Nat.div_le_self _ _) (by omega)
  have := Nat.or_lt_two_pow (x := x.toNat * 2 ^ n % 4294967296) (y := x.toNat / 2 ^ (32 - n)) (n := 32) (by omega) h1
  unfold rotw
  omega
/-- Four words. -/
structure Q4w where
  a : Int
  b : Int
  c : Int
  d : Int
def half (r1 r2 : Nat) (q : Q4w) : Q4w :=
  ⟨addw q.a q.b, rotw (xorw q.b (addw q.c (rotw (xorw q.d (addw q.a q.b)) r1))) r2, addw q.c (rotw (xorw q.d (addw q.a q.b)) r1), rotw (xorw q.d (addw q.a q.b)) r1⟩
/-- A quarter round. -/
def quart (q : Q4w) : Q4w := half 8 7 (half 16 12 q)
structure Q4w.ok (q : Q4w) : Prop where
  a : W32 q.a
  b : W32 q.b
  c : W32 q.c
  d : W32 q.d
theorem half_ok {r1 r2 : Nat} {q : Q4w} (h : q.ok) : (half r1 r2 q).ok := by
  have h1 := rotw_w r1 (xorw_w h.d (addw_w q.a q.b))
  exact ⟨addw_w _ _, rotw_w _ (xorw_w h.b (addw_w _ _)), addw_w _ _, h1⟩
theorem quart_ok {q : Q4w} (h : q.ok) : (quart q).ok := half_ok (half_ok h)
/-- A row of n numbers. -/
def WA (k : IntKind) (n : Nat) (s : Nat → Int) : Array Value := ((List.range n).map fun i => Value.int k (s i)).toArray
theorem WA_size (k : IntKind) (n : Nat) (s : Nat → Int) : (WA k n s).size = n := by simp [WA]
theorem WA_get (k : IntKind) (n : Nat) (s : Nat → Int) (i : Nat) (h : i < n) : (WA k n s)[i]? = some (.int k (s i)) := by simp [WA, h]
def upd (s : Nat → Int) (i : Nat) (v : Int) : Nat → Int := fun j => if j = i then v else s j
theorem WA_ext {cs : Array Value} {k : IntKind} {n : Nat} {s : Nat → Int} (hs : cs.size = n) (h : ∀ i, i < n → cs[i]? = some (.int k (s i))) : cs = WA k n s := by
  apply Array.ext_getElem?
  intro i
  by_cases hi : i < n
  · rw [h i hi, WA_get k n s i hi]
  · rw [Array.getElem?_eq_none (by omega), Array.getElem?_eq_none (by rw [WA_size]; omega)]
theorem WA_set (k : IntKind) (n : Nat) (s : Nat → Int) (i : Nat) (v : Int) (_h : i < n) : (WA k n s).setIfInBounds i (.int k v) = WA k n (upd s i v) := by
  apply WA_ext
  · simp [WA_size]
  · intro j hj
    rw [Array.getElem?_setIfInBounds]
    by_cases e : i = j
    · subst e; simp [WA_size, hj, upd]
    · rw [if_neg e, WA_get k n s j hj]; simp only [upd]; rw [if_neg (fun h => e h.symm)]
theorem WA_congr {k : IntKind} {n : Nat} {s t : Nat → Int} (h : ∀ i, i < n → s i = t i) : WA k n s = WA k n t :=
  WA_ext (WA_size k n s) (fun i hi => by rw [WA_get k n s i hi, h i hi])
/-- The words at four places, behind a quarter round of them. -/
def qrow (s : Nat → Int) (a b c d : Nat) : Nat → Int :=
  upd (upd (upd (upd s a (quart ⟨s a, s b, s c, s d⟩).a) b (quart ⟨s a, s b, s c, s d⟩).b) c (quart ⟨s a, s b, s c, s d⟩).c) d (quart ⟨s a, s b, s c, s d⟩).d
end Go.Proofs.Ytfgebcemdjplnaa
