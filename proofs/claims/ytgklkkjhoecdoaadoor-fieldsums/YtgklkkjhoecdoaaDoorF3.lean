/-
  Own text. What load and putWord of package field answer, for every 32 bytes and every word: contracts over the translation.
-/
import Derived.Test.YtgklkkjhoecdoaaDoorProg
import Derived.Test.YtgklkkjhoecdoaaDoorF2
import Derived.Deep.RegionWith
namespace Go.Proofs.YtgklkkjhoecdoaaDoor
open Go.RowKit Go.Proofs
/-- 32 bytes as cells: the number's bytes, the lowest first. -/
def byt (n : Int) (i : Nat) : Int := n / 256 ^ i % 256
def BA (n : Int) : Array Value := ((List.range 32).map fun i => Value.int .u8 (byt n i)).toArray
theorem BA_size (n : Int) : (BA n).size = 32 := by simp [BA]
theorem BA_get (n : Int) (i : Nat) (h : i < 32) : (BA n)[i]? = some (.int .u8 (byt n i)) := by
  simp [BA, h]
theorem byt_byte (n : Int) (i : Nat) : Byte (byt n i) := by unfold byt Byte; omega
def limb (n : Int) (k : Nat) : Int := n / 256 ^ k % 18446744073709551616
theorem limb_u64 (n : Int) (k : Nat) : U64 (limb n k) := by unfold limb U64; omega
theorem limb_eq (n : Int) (k : Nat) : V8 (byt n k) (byt n (k + 1)) (byt n (k + 2)) (byt n (k + 3)) (byt n (k + 4)) (byt n (k + 5)) (byt n (k + 6)) (byt n (k + 7)) = limb n k := by
  unfold V8 byt limb
  have e : ∀ j : Nat, n / 256 ^ (k + j) = n / 256 ^ k / 256 ^ j := fun j => by rw [Int.pow_add, Int.ediv_ediv_of_nonneg (Int.pow_nonneg (by decide))]
  rw [e 1, e 2, e 3, e 4, e 5, e 6, e 7]
  generalize n / 256 ^ k = z
  simp only [Int.pow_succ, Int.pow_zero, Int.reduceMul, Int.one_mul]
  omega
theorem Below.drewN' {B : Nat} {a w : World} (h : Below B a w) (n : Nat) : Below B a (w.drewN n) := ⟨h.os, h.tape, h.output, h.size, h.block⟩
theorem word_of (n : Int) (b k cap : Nat) (w : World) (hk : k + 8 ≤ 32) (hc : ∀ i, i < 32 → w.cell? ⟨b, i, none⟩ = some (.int .u8 (byt n i))) :
    Calls Tryd.prog 40 #[.slice (some ⟨b, k, none⟩) 8 cap] w fun e w' => e = .returned (.int .u64 (limb n k)) ∧ ∃ m, w' = w.drewN m := by
  rw [← limb_eq]
  exact word_any b k cap _ _ _ _ _ _ _ _ w (byt_byte _ _) (byt_byte _ _) (byt_byte _ _) (byt_byte _ _) (byt_byte _ _) (byt_byte _ _) (byt_byte _ _) (byt_byte _ _)
    (hc _ (by omega)) (hc _ (by omega)) (hc _ (by omega)) (hc _ (by omega)) (hc _ (by omega)) (hc _ (by omega)) (hc _ (by omega)) (hc _ (by omega))
set_option maxHeartbeats 1000000 in
theorem load_any (n : Int) (w : World) :
    Calls Tryd.prog 29 #[.agg (BA n)] w fun e w' => e = .returned (.agg #[.int .u64 (limb n 0), .int .u64 (limb n 8), .int .u64 (limb n 16), .int .u64 (limb n 24)]) ∧ Below w.heap.size w w' := by
  have hsz := BA_size n
  go_enter Tryd.func29, Tryd.ntmps29
  go_wp2
  go_region_with (go_at_call 40; refine (word_of n _ _ _ _ ?_ ?_).mono ?_; omega; exact (fun i hi => (cell_of_row _ _ i _ _ (0, 0) (heap_alloc2_old w _ _)).trans (BA_get n i hi)); rintro e w' ⟨rfl, m, rfl⟩)
  go_wp2
  refine bodyPost_ret (v := .agg #[.int .u64 (limb n 0), .int .u64 (limb n 8), .int .u64 (limb n 16), .int .u64 (limb n 24)]) (by simp [results, Tryd.results29, go_sem]) rfl ⟨rfl, ?_⟩
  repeat first | exact Below.refl _ _ | refine Below.alloc ?_ (by simp <;> omega) _ | refine Below.setCell ?_ (by simp <;> omega) _ | refine Below.drewN' ?_ _
set_option maxHeartbeats 1000000 in
theorem putWord_walk (b off cap : Nat) (x : Int) (v0 v1 v2 v3 v4 v5 v6 v7 : Value) (w : World)
    (c0 : w.cell? ⟨b, off, none⟩ = some v0) (c1 : w.cell? ⟨b, off + 1, none⟩ = some v1)
    (c2 : w.cell? ⟨b, off + 2, none⟩ = some v2) (c3 : w.cell? ⟨b, off + 3, none⟩ = some v3)
    (c4 : w.cell? ⟨b, off + 4, none⟩ = some v4) (c5 : w.cell? ⟨b, off + 5, none⟩ = some v5)
    (c6 : w.cell? ⟨b, off + 6, none⟩ = some v6) (c7 : w.cell? ⟨b, off + 7, none⟩ = some v7)
    (f0 : w.frozen? ⟨b, off, none⟩ = false) (f1 : w.frozen? ⟨b, off + 1, none⟩ = false)
    (f2 : w.frozen? ⟨b, off + 2, none⟩ = false) (f3 : w.frozen? ⟨b, off + 3, none⟩ = false)
    (f4 : w.frozen? ⟨b, off + 4, none⟩ = false) (f5 : w.frozen? ⟨b, off + 5, none⟩ = false)
    (f6 : w.frozen? ⟨b, off + 6, none⟩ = false) (f7 : w.frozen? ⟨b, off + 7, none⟩ = false) :
    Calls Tryd.prog 41 #[.slice (some ⟨b, off, none⟩) 8 cap, .int .u64 x] w fun e w' => e = .returned (.tuple #[]) ∧
      w' = (((((((w.setCell ⟨b, off, none⟩ (.int .u8 (x % 256))).setCell ⟨b, off + 1, none⟩ (.int .u8 (x / 256 % 256))).setCell ⟨b, off + 2, none⟩ (.int .u8 (x / 65536 % 256))).setCell
        ⟨b, off + 3, none⟩ (.int .u8 (x / 16777216 % 256))).setCell ⟨b, off + 4, none⟩ (.int .u8 (x / 4294967296 % 256))).setCell ⟨b, off + 5, none⟩ (.int .u8 (x / 1099511627776 % 256))).setCell
        ⟨b, off + 6, none⟩ (.int .u8 (x / 281474976710656 % 256))).setCell ⟨b, off + 7, none⟩ (.int .u8 (x / 72057594037927936 % 256)) := by
  go_enter Tryd.func41, Tryd.ntmps41
  go_wp2
  go_end0
  exact ⟨rfl, rfl⟩
/-- All but block b is as it was. -/
structure Only (b : Nat) (w w' : World) : Prop where
  os : w'.os = w.os
  tape : w'.tape = w.tape
  output : w'.output = w.output
  size : w'.heap.size = w.heap.size
  block : ∀ k, k ≠ b → w'.heap[k]? = w.heap[k]?
theorem Only.setCell {b : Nat} {w w' : World} (h : Only b w w') (i : Nat) (v : Value) : Only b w (w'.setCell ⟨b, i, none⟩ v) :=
  ⟨h.os, h.tape, h.output, by rw [← h.size]; simp [World.setCell], fun k hk => by rw [Below.heap_setCell _ _ _ _ hk]; exact h.block k hk⟩
theorem Only.refl (b : Nat) (w : World) : Only b w w := ⟨rfl, rfl, rfl, rfl, fun _ _ => rfl⟩
theorem Only.cell {b : Nat} {w w' : World} (h : Only b w w') (k i : Nat) (hk : k ≠ b) : w'.cell? ⟨k, i, none⟩ = w.cell? ⟨k, i, none⟩ := World.cell?_of_block (w := w) (h.block k hk)
theorem Only.below {b B : Nat} {w w' : World} (h : Only b w w') (hb : B ≤ b) : Below B w w' := ⟨h.os, h.tape, h.output, by rw [h.size]; exact Nat.le_refl _, fun k hk => h.block k (by omega)⟩
/-- The eight bytes of a word, laid from off on. -/
def put8 (cs : Array Value) (off : Nat) (x : Int) : Array Value :=
  (((((((cs.setIfInBounds off (.int .u8 (x % 256))).setIfInBounds (off + 1) (.int .u8 (x / 256 % 256))).setIfInBounds (off + 2) (.int .u8 (x / 65536 % 256))).setIfInBounds
    (off + 3) (.int .u8 (x / 16777216 % 256))).setIfInBounds (off + 4) (.int .u8 (x / 4294967296 % 256))).setIfInBounds (off + 5) (.int .u8 (x / 1099511627776 % 256))).setIfInBounds
    (off + 6) (.int .u8 (x / 281474976710656 % 256))).setIfInBounds (off + 7) (.int .u8 (x / 72057594037927936 % 256))
theorem put8_size (cs : Array Value) (off : Nat) (x : Int) : (put8 cs off x).size = cs.size := by simp [put8]
theorem putWord_any (b off cap : Nat) (x : Int) (cs : Array Value) (t : TypeId) (w : World) (hg : w.heap[b]? = some (.cells cs t (0, 0))) (ho : off + 8 ≤ cs.size) :
    Calls Tryd.prog 41 #[.slice (some ⟨b, off, none⟩) 8 cap, .int .u64 x] w fun e w' => e = .returned (.tuple #[]) ∧ w'.heap[b]? = some (.cells (put8 cs off x) t (0, 0)) ∧ Only b w w' := by
  have c : ∀ i, i < 8 → ∃ v, w.cell? ⟨b, off + i, none⟩ = some v := fun i hi => ⟨cs[off + i]'(by omega), by rw [cell_of_row w b (off + i) cs t _ hg]; exact Array.getElem?_eq_getElem (by omega)⟩
  have f : ∀ i, w.frozen? ⟨b, i, none⟩ = false := fun i => frozen_of_row w b i cs t hg
  obtain ⟨v0, c0⟩ := c 0 (by omega)
  obtain ⟨v1, c1⟩ := c 1 (by omega)
  obtain ⟨v2, c2⟩ := c 2 (by omega)
  obtain ⟨v3, c3⟩ := c 3 (by omega)
  obtain ⟨v4, c4⟩ := c 4 (by omega)
  obtain ⟨v5, c5⟩ := c 5 (by omega)
  obtain ⟨v6, c6⟩ := c 6 (by omega)
  obtain ⟨v7, c7⟩ := c 7 (by omega)
  refine (putWord_walk b off cap x v0 v1 v2 v3 v4 v5 v6 v7 w c0 c1 c2 c3 c4 c5 c6 c7 (f _) (f _) (f _) (f _) (f _) (f _) (f _) (f _)).mono ?_
  rintro e w' ⟨rfl, rfl⟩
  refine ⟨rfl, ?_, ((((((((Only.refl b w).setCell _ _).setCell _ _).setCell _ _).setCell _ _).setCell _ _).setCell _ _).setCell _ _).setCell _ _⟩
  unfold put8
  exact heap_setCell_same _ b _ _ t _ (heap_setCell_same _ b _ _ t _ (heap_setCell_same _ b _ _ t _ (heap_setCell_same _ b _ _ t _ (heap_setCell_same _ b _ _ t _ (heap_setCell_same _ b _ _ t _ (heap_setCell_same _ b _ _ t _ (heap_setCell_same _ b _ _ t _ hg)))))))
end Go.Proofs.YtgklkkjhoecdoaaDoor
