/-
  Own text. What plusWord, fold and least of package field answer, for every four words: contracts over the translation.
-/
import Derived.Test.YthghcjepdhkfdaaGreatDoorProg
import Derived.Test.YthghcjepdhkfdaaGreatDoorJS1
import Derived.WalkKit
import Derived.WalkSpells
import Derived.WalkLawsBesides
import Derived.Laws.Externs
import Derived.Laws.MathBits
import Derived.Deep.QuietTactic
import Derived.BigQuiet
import Derived.Laws.Bits64b
import Derived.Deep.RegionWith
import Derived.BigRegion
import Derived.Shelf.Spec.BitsCarry
import Derived.Test.YthghcjepdhkfdaaGreatDoorRows
import Derived.Test.YthghcjepdhkfdaaGreatDoorTie
import Derived.Test.YthghcjepdhkfdaaGreatDoorCards
import Derived.ProofKit
import Derived.LaidMore
import Derived.OpenShut
import Derived.Stop.Joined
import Derived.SevenTiedAt
import Derived.Deep.DeepHandedRow
import Derived.Lib.LaidTab
import Derived.Deep.OwnRows
import Derived.Lib.LazyBuf
import Derived.Lib.AppendStr
import Derived.Laws.BytesArg
import Derived.Lib.BufferMore
import Derived.Lib.SlBytesConst
import Derived.ArgAppend
import Derived.Laws.CopyOwn
import Derived.Shelf.Strings.Builder1
import Derived.Shelf.Strings.Builder2
import Derived.Laws.IdiomStrings
import Derived.Laws.AppendOwnNone
import Derived.OrdersHeld
import Derived.Laws.World
namespace Go.Proofs.YthghcjepdhkfdaaGreatDoor.Fld
open Go.RowKit Go.Proofs
set_option maxRecDepth 100000
theorem and_low63 (z : Int) (h0 : 0 ≤ z) (h1 : z < 18446744073709551616) : bits .and .u64 z 9223372036854775807 = z % 9223372036854775808 := by go_bits2
theorem top19 (z : Int) (h : U64 z) : IntKind.u64.wrap (19 * (z / 9223372036854775808)) = 19 * (z / 9223372036854775808) := by
  unfold U64 at h; rw [IntKind.wrap_u64]; omega
theorem u64_mod63 (z : Int) : U64 (z % 9223372036854775808) := by unfold U64; omega
theorem u64_top19 {z : Int} (h : U64 z) : U64 (19 * (z / 9223372036854775808)) := by unfold U64 at *; omega
theorem u64_19 : U64 19 := by unfold U64; omega
theorem Hid.mk {p : Prop} (h : p) : Hid p := h
theorem add64_run (x y c : Int) (hx : U64 x) (hy : U64 y) (hc : Bit c) (w : World) :
    ∃ lo hi, Sum3 x y c lo hi ∧ (callFunc 196 #[.int .u64 x, .int .u64 y, .int .u64 c]).run Tryz.prog w =
      .ok (.value (.tuple #[.int .u64 lo, .int .u64 hi])) w := by
  unfold U64 at hx hy
  unfold Bit at hc
  refine ⟨(x + y + c) % 18446744073709551616, (x + y + c) / 18446744073709551616, ⟨⟨?_, ?_⟩, ?_, ?_⟩, ?_⟩
  · omega
  · omega
  · unfold Bit; omega
  · omega
  rw [run_callFunc_extern Tryz.func196 (by kernel_rfl) (by kernel_rfl) (by kernel_rfl) (e := add64Entry) (by kernel_rfl), run_add64 x y c (by omega) (by omega) (by omega) (by omega)]
  rfl
theorem add64_upon {o : Oper} {a : Act} {next : Act → World → Prop} {Q : Exit → Act → World → Prop} {x y c : Int} {w : World}
    (hx : U64 x) (hy : U64 y) (hc : Bit c) (h : ∀ lo hi, Sum3 x y c lo hi → U64 lo → U64 hi → Bit hi → next (a.put o.dst (.tuple #[.int .u64 lo, .int .u64 hi])) w) :
    o.upon Tryz.prog a next Q ((callFunc 196 #[.int .u64 x, .int .u64 y, .int .u64 c]).run Tryz.prog w) := by
  obtain ⟨lo, hi, hs, e⟩ := add64_run x y c hx hy hc w
  rw [e]
  exact h lo hi hs hs.lo hs.hi.u64 hs.hi
set_option maxHeartbeats 1000000 in
theorem plusWord_any (x0 x1 x2 x3 n : Int) (w : World) (h0 : U64 x0) (h1 : U64 x1) (h2 : U64 x2) (h3 : U64 x3) (hn : U64 n) :
    Calls Tryz.prog 170 #[.agg #[.int .u64 x0, .int .u64 x1, .int .u64 x2, .int .u64 x3], .int .u64 n] w fun e w' =>
      ∃ y0 y1 y2 y3 c, U64 y0 ∧ U64 y1 ∧ U64 y2 ∧ U64 y3 ∧ Bit c ∧ V4 y0 y1 y2 y3 + W256 * c = V4 x0 x1 x2 x3 + n ∧
        e = .returned (.tuple #[.agg #[.int .u64 y0, .int .u64 y1, .int .u64 y2, .int .u64 y3], .int .u64 c]) ∧
        w' = (w.alloc (.cells #[.int .u64 y0, .int .u64 y1, .int .u64 y2, .int .u64 y3] 142)).alloc (.cells #[.int .u64 y0, .int .u64 y1, .int .u64 y2, .int .u64 y3] 142) := by
  have hb0 := bit0
  go_enter Tryz.func170, Tryz.ntmps170
  go_wp2
  refine wp_loop_rounds 5 ?_
  rw [rounds_succ]
  go_wp2
  refine add64_upon (by assumption) (by assumption) (by assumption) ?_
  intro y0 c0 s0 l0 k0 b0
  go_wp2
  rw [rounds_succ]
  go_wp2
  refine add64_upon (by assumption) (by assumption) (by assumption) ?_
  intro y1 c1 s1 l1 k1 b1
  go_wp2
  rw [rounds_succ]
  go_wp2
  refine add64_upon (by assumption) (by assumption) (by assumption) ?_
  intro y2 c2 s2 l2 k2 b2
  go_wp2
  rw [rounds_succ]
  go_wp2
  refine add64_upon (by assumption) (by assumption) (by assumption) ?_
  intro y3 c3 s3 l3 k3 b3
  go_wp2
  rw [rounds_succ]
  go_wp2
  exact bodyPost_ret (v := .tuple #[.agg #[.int .u64 y0, .int .u64 y1, .int .u64 y2, .int .u64 y3], .int .u64 c3]) (by simp [results, Tryz.results170, go_sem]) rfl
    ⟨y0, y1, y2, y3, c3, l0, l1, l2, l3, b3, plusWord_num s0 s1 s2 s3, rfl, rfl⟩
set_option maxHeartbeats 1000000 in
theorem fold_any (x0 x1 x2 x3 n : Int) (w : World) (h0 : U64 x0) (h1 : U64 x1) (h2 : U64 x2) (h3 : U64 x3) (hn : 0 ≤ n) (hn2 : n ≤ 38) :
    Calls Tryz.prog 169 #[.agg #[.int .u64 x0, .int .u64 x1, .int .u64 x2, .int .u64 x3], .int .u64 n] w fun e w' =>
      ∃ y0 y1 y2 y3, U64 y0 ∧ U64 y1 ∧ U64 y2 ∧ U64 y3 ∧ (∃ k : Int, V4 y0 y1 y2 y3 = V4 x0 x1 x2 x3 + W256 * n + k * P255) ∧
        e = .returned (.agg #[.int .u64 y0, .int .u64 y1, .int .u64 y2, .int .u64 y3]) ∧ Below w.heap.size w w' := by
  go_enter Tryz.func169, Tryz.ntmps169
  go_wp2_with fail
  refine (plusWord_any _ _ _ _ _ _ h0 h1 h2 h3 (by unfold U64; omega)).mono ?_
  rintro e w1 ⟨y0, y1, y2, y3, a, hy0, hy1, hy2, hy3, ha, e1, rfl, rfl⟩
  have E1 : Hid (V4 y0 y1 y2 y3 + W256 * a = V4 x0 x1 x2 x3 + 38 * n) := e1
  clear e1
  have ha0 : 0 ≤ a := by unfold Bit at ha; omega
  have ha1 : a ≤ 1 := by unfold Bit at ha; omega
  go_wp2_with fail
  refine (plusWord_any _ _ _ _ _ _ hy0 hy1 hy2 hy3 (by unfold U64; omega)).mono ?_
  rintro e w1 ⟨z0, z1, z2, z3, b, hz0, hz1, hz2, hz3, hb, e2, rfl, rfl⟩
  have E2 : Hid (V4 z0 z1 z2 z3 + W256 * b = V4 y0 y1 y2 y3 + 38 * a) := e2
  clear e2
  go_wp2
  refine bodyPost_ret (v := .agg #[.int .u64 z0, .int .u64 z1, .int .u64 z2, .int .u64 z3]) (by simp [results, Tryz.results169, go_sem]) rfl
    ⟨z0, z1, z2, z3, hz0, hz1, hz2, hz3, fold_num (V4_range h0 h1 h2 h3) (V4_range hy0 hy1 hy2 hy3) (V4_range hz0 hz1 hz2 hz3) hn hn2 ha E1.out E2.out, rfl, ?_⟩
  repeat first | exact Below.refl _ _ | refine Below.alloc ?_ (by simp <;> omega) _
set_option maxHeartbeats 1000000 in
theorem least_any (x0 x1 x2 x3 : Int) (w : World) (h0 : U64 x0) (h1 : U64 x1) (h2 : U64 x2) (h3 : U64 x3) :
    Calls Tryz.prog 138 #[.agg #[.int .u64 x0, .int .u64 x1, .int .u64 x2, .int .u64 x3]] w fun e w' =>
      ∃ y0 y1 y2 y3, U64 y0 ∧ U64 y1 ∧ U64 y2 ∧ U64 y3 ∧ V4 y0 y1 y2 y3 = V4 x0 x1 x2 x3 % P255 ∧
        e = .returned (.agg #[.int .u64 y0, .int .u64 y1, .int .u64 y2, .int .u64 y3]) ∧ Below w.heap.size w w' := by
  have m3 := and_low63 x3 h3.1 h3.2
  have t3 := top19 x3 h3
  go_enter Tryz.func138, Tryz.ntmps138
  go_wp2_with fail
  refine (plusWord_any _ _ _ _ _ _ h0 h1 h2 (u64_mod63 x3) (u64_top19 h3)).mono ?_
  rintro e w1 ⟨y0, y1, y2, y3, a, hy0, hy1, hy2, hy3, ha, e1, rfl, rfl⟩
  have E1 := Hid.mk e1
  clear e1
  go_wp2_with fail
  refine (plusWord_any _ _ _ _ _ _ hy0 hy1 hy2 hy3 u64_19).mono ?_
  rintro e w1 ⟨r0, r1, r2, r3, b, hr0, hr1, hr2, hr3, hb, e2, rfl, rfl⟩
  have E2 := Hid.mk e2
  clear e2
  have tr := top19 r3 hr3
  go_wp2_with fail
  refine (plusWord_any _ _ _ _ _ _ hy0 hy1 hy2 hy3 (u64_top19 hr3)).mono ?_
  rintro e w1 ⟨z0, z1, z2, z3, c, hz0, hz1, hz2, hz3, hc, e3, rfl, rfl⟩
  have E3 := Hid.mk e3
  clear e3
  have mz := and_low63 z3 hz3.1 hz3.2
  go_wp2
  refine bodyPost_ret (v := .agg #[.int .u64 z0, .int .u64 z1, .int .u64 z2, .int .u64 (z3 % 9223372036854775808)]) (by simp [results, Tryz.results138, go_sem]) rfl
    ⟨z0, z1, z2, _, hz0, hz1, hz2, u64_mod63 z3, least_num h0 h1 h2 h3 hy0 hy1 hy2 hy3 hr0 hr1 hr2 hr3 hz0 hz1 hz2 hz3 ha hb hc E1.out E2.out E3.out, rfl, ?_⟩
  repeat first | exact Below.refl _ _ | refine Below.alloc ?_ (by simp <;> omega) _
end Go.Proofs.YthghcjepdhkfdaaGreatDoor.Fld

/-
  Own text. What word, load, putWord and store of package field answer, for every 32 bytes and every four words: contracts over the translation.
-/
namespace Go.Proofs.YthghcjepdhkfdaaGreatDoor.Fld
open Go.RowKit Go.Proofs
set_option maxRecDepth 100000
def Byte (x : Int) : Prop := 0 ≤ x ∧ x < 256
theorem or_shift (a b : Int) (k : Nat) (ha : 0 ≤ a) (hb : 0 ≤ b) (hk : a < 2 ^ k) (hs : a + b * 2 ^ k < 18446744073709551616) :
    bits BinOp.or IntKind.u64 a (b * 2 ^ k) = a + b * 2 ^ k := by
  obtain ⟨A, rfl⟩ := Int.eq_ofNat_of_zero_le ha
  obtain ⟨B, rfl⟩ := Int.eq_ofNat_of_zero_le hb
  have e : ((B : Int) * 2 ^ k) = ((B * 2 ^ k : Nat) : Int) := by rw [Int.natCast_mul, Int.natCast_pow]; rfl
  have hA : A < 2 ^ k := by exact_mod_cast hk
  rw [e] at hs ⊢
  rw [bits_or_u64_nat _ _ (by omega) (by omega), Nat.or_comm, Nat.mul_comm, ← Nat.two_pow_add_eq_or_of_lt hA B]
  omega
theorem wrap_u64_id (z : Int) (h0 : 0 ≤ z) (h1 : z < 18446744073709551616) : IntKind.u64.wrap z = z := by rw [IntKind.wrap_u64]; omega
theorem word_num (x0 x1 x2 x3 x4 x5 x6 x7 : Int) (h0 : Byte x0) (h1 : Byte x1) (h2 : Byte x2) (h3 : Byte x3) (h4 : Byte x4) (h5 : Byte x5) (h6 : Byte x6) (h7 : Byte x7) :
    bits BinOp.or IntKind.u64
      (bits BinOp.or IntKind.u64
        (bits BinOp.or IntKind.u64
          (bits BinOp.or IntKind.u64
            (bits BinOp.or IntKind.u64
              (bits BinOp.or IntKind.u64
                (bits BinOp.or IntKind.u64 (IntKind.u64.wrap x0)
                  (IntKind.u64.wrap (IntKind.u64.wrap x1 * 256)))
                (IntKind.u64.wrap (IntKind.u64.wrap x2 * 65536)))
              (IntKind.u64.wrap (IntKind.u64.wrap x3 * 16777216)))
            (IntKind.u64.wrap (IntKind.u64.wrap x4 * 4294967296)))
          (IntKind.u64.wrap (IntKind.u64.wrap x5 * 1099511627776)))
        (IntKind.u64.wrap (IntKind.u64.wrap x6 * 281474976710656)))
      (IntKind.u64.wrap (IntKind.u64.wrap x7 * 72057594037927936)) =
    x0 + x1 * 256 + x2 * 65536 + x3 * 16777216 + x4 * 4294967296 + x5 * 1099511627776 + x6 * 281474976710656 + x7 * 72057594037927936 := by
  unfold Byte at *
  rw [wrap_u64_id x0 (by omega) (by omega), wrap_u64_id x1 (by omega) (by omega), wrap_u64_id x2 (by omega) (by omega), wrap_u64_id x3 (by omega) (by omega),
    wrap_u64_id x4 (by omega) (by omega), wrap_u64_id x5 (by omega) (by omega), wrap_u64_id x6 (by omega) (by omega), wrap_u64_id x7 (by omega) (by omega)]
  rw [wrap_u64_id (x1 * 256) (by omega) (by omega), wrap_u64_id (x2 * 65536) (by omega) (by omega), wrap_u64_id (x3 * 16777216) (by omega) (by omega),
    wrap_u64_id (x4 * 4294967296) (by omega) (by omega), wrap_u64_id (x5 * 1099511627776) (by omega) (by omega), wrap_u64_id (x6 * 281474976710656) (by omega) (by omega), wrap_u64_id (x7 * 72057594037927936) (by omega) (by omega)]
  rw [show bits BinOp.or IntKind.u64 x0 (x1 * 256) = x0 + x1 * 256 from or_shift _ _ 8 (by omega) (by omega) (by omega) (by omega)]
  rw [show bits BinOp.or IntKind.u64 (x0 + x1 * 256) (x2 * 65536) = x0 + x1 * 256 + x2 * 65536 from or_shift _ _ 16 (by omega) (by omega) (by omega) (by omega)]
  rw [show bits BinOp.or IntKind.u64 (x0 + x1 * 256 + x2 * 65536) (x3 * 16777216) = x0 + x1 * 256 + x2 * 65536 + x3 * 16777216 from or_shift _ _ 24 (by omega) (by omega) (by omega) (by omega)]
  rw [show bits BinOp.or IntKind.u64 (x0 + x1 * 256 + x2 * 65536 + x3 * 16777216) (x4 * 4294967296) = x0 + x1 * 256 + x2 * 65536 + x3 * 16777216 + x4 * 4294967296 from or_shift _ _ 32 (by omega) (by omega) (by omega) (by omega)]
  rw [show bits BinOp.or IntKind.u64 (x0 + x1 * 256 + x2 * 65536 + x3 * 16777216 + x4 * 4294967296) (x5 * 1099511627776) = x0 + x1 * 256 + x2 * 65536 + x3 * 16777216 + x4 * 4294967296 + x5 * 1099511627776 from or_shift _ _ 40 (by omega) (by omega) (by omega) (by omega)]
  rw [show bits BinOp.or IntKind.u64 (x0 + x1 * 256 + x2 * 65536 + x3 * 16777216 + x4 * 4294967296 + x5 * 1099511627776) (x6 * 281474976710656) = x0 + x1 * 256 + x2 * 65536 + x3 * 16777216 + x4 * 4294967296 + x5 * 1099511627776 + x6 * 281474976710656 from or_shift _ _ 48 (by omega) (by omega) (by omega) (by omega)]
  exact or_shift _ _ 56 (by omega) (by omega) (by omega) (by omega)
/-- Eight bytes, the lowest first, as a number. -/
def V8 (x0 x1 x2 x3 x4 x5 x6 x7 : Int) : Int := x0 + x1 * 256 + x2 * 65536 + x3 * 16777216 + x4 * 4294967296 + x5 * 1099511627776 + x6 * 281474976710656 + x7 * 72057594037927936
theorem ret_int {k : IntKind} {a b : Int} (h : a = b) : Ending.returned (.int k a) = .returned (.int k b) := by rw [h]
set_option maxHeartbeats 1000000 in
theorem word_any (b off cap : Nat) (x0 x1 x2 x3 x4 x5 x6 x7 : Int) (w : World) (h0 : Byte x0) (h1 : Byte x1) (h2 : Byte x2) (h3 : Byte x3) (h4 : Byte x4) (h5 : Byte x5) (h6 : Byte x6) (h7 : Byte x7)
    (c0 : w.cell? ⟨b, off, none⟩ = some (.int .u8 x0)) (c1 : w.cell? ⟨b, off + 1, none⟩ = some (.int .u8 x1))
    (c2 : w.cell? ⟨b, off + 2, none⟩ = some (.int .u8 x2)) (c3 : w.cell? ⟨b, off + 3, none⟩ = some (.int .u8 x3))
    (c4 : w.cell? ⟨b, off + 4, none⟩ = some (.int .u8 x4)) (c5 : w.cell? ⟨b, off + 5, none⟩ = some (.int .u8 x5))
    (c6 : w.cell? ⟨b, off + 6, none⟩ = some (.int .u8 x6)) (c7 : w.cell? ⟨b, off + 7, none⟩ = some (.int .u8 x7)) :
    Calls Tryz.prog 164 #[.slice (some ⟨b, off, none⟩) 8 cap] w fun e w' => e = .returned (.int .u64 (V8 x0 x1 x2 x3 x4 x5 x6 x7)) ∧ ∃ n, w' = w.drewN n := by
  go_enter Tryz.func164, Tryz.ntmps164
  go_wp2
  go_quiet (fail)
  go_wp2
  go_ret
  exact ⟨ret_int (word_num x0 x1 x2 x3 x4 x5 x6 x7 h0 h1 h2 h3 h4 h5 h6 h7), _, rfl⟩
end Go.Proofs.YthghcjepdhkfdaaGreatDoor.Fld

/-
  Own text. What load and putWord of package field answer, for every 32 bytes and every word: contracts over the translation.
-/
namespace Go.Proofs.YthghcjepdhkfdaaGreatDoor.Fld
open Go.RowKit Go.Proofs
set_option maxRecDepth 100000
/-- 32 bytes as cells: the number's bytes, the lowest first. -/
def byt (n : Int) (i : Nat) : Int := n / 256 ^ i % 256
def BA (n : Int) : Array Value := ((List.range 32).map fun i => Value.int .u8 (byt n i)).toArray
theorem BA_size (n : Int) : (BA n).size = 32 := by simp [BA]
theorem BA_get (n : Int) (i : Nat) (h : i < 32) : (BA n)[i]? = some (.int .u8 (byt n i)) := by
  simp [BA, h]
theorem byt_byte (n : Int) (i : Nat) : Byte (byt n i) := by unfold byt Byte; omega
def limb (n : Int) (k : Nat) : Int := n / 256 ^ k % 18446744073709551616
theorem limb_u64 (n : Int) (k : Nat) : U64 (limb n k) := by unfold limb U64; omega
theorem limb_eq (n : Int) (k : Nat) : V8 (byt n k) (byt n (k + 1)) (byt n (k + 2)) (byt n (k + 3)) (byt n (k + 4)) (byt n (k + 5)) (byt n (k + 6)) (byt n (k + 7)) = limb n k := by
  unfold V8 byt limb
  have e : ∀ j : Nat, n / 256 ^ (k + j) = n / 256 ^ k / 256 ^ j := fun j => by rw [Int.pow_add, Int.ediv_ediv_of_nonneg (Int.pow_nonneg (by decide))]
  rw [e 1, e 2, e 3, e 4, e 5, e 6, e 7]
  generalize n / 256 ^ k = z
  simp only [Int.pow_succ, Int.pow_zero, Int.reduceMul, Int.one_mul]
  omega
theorem Below.drewN' {B : Nat} {a w : World} (h : Below B a w) (n : Nat) : Below B a (w.drewN n) := ⟨h.os, h.tape, h.output, h.size, h.block⟩
theorem word_of (n : Int) (b k cap : Nat) (w : World) (hk : k + 8 ≤ 32) (hc : ∀ i, i < 32 → w.cell? ⟨b, i, none⟩ = some (.int .u8 (byt n i))) :
    Calls Tryz.prog 164 #[.slice (some ⟨b, k, none⟩) 8 cap] w fun e w' => e = .returned (.int .u64 (limb n k)) ∧ ∃ m, w' = w.drewN m := by
  rw [← limb_eq]
  exact word_any b k cap _ _ _ _ _ _ _ _ w (byt_byte _ _) (byt_byte _ _) (byt_byte _ _) (byt_byte _ _) (byt_byte _ _) (byt_byte _ _) (byt_byte _ _) (byt_byte _ _)
    (hc _ (by omega)) (hc _ (by omega)) (hc _ (by omega)) (hc _ (by omega)) (hc _ (by omega)) (hc _ (by omega)) (hc _ (by omega)) (hc _ (by omega))
set_option maxHeartbeats 1000000 in
theorem load_any (n : Int) (w : World) :
    Calls Tryz.prog 133 #[.agg (BA n)] w fun e w' => e = .returned (.agg #[.int .u64 (limb n 0), .int .u64 (limb n 8), .int .u64 (limb n 16), .int .u64 (limb n 24)]) ∧ Below w.heap.size w w' := by
  have hsz := BA_size n
  go_enter Tryz.func133, Tryz.ntmps133
  go_wp2
  go_region_with (go_at_call 164; refine (word_of n _ _ _ _ ?_ ?_).mono ?_; omega; exact (fun i hi => (cell_of_row _ _ i _ _ (0, 0) (heap_alloc2_old w _ _)).trans (BA_get n i hi)); rintro e w' ⟨rfl, m, rfl⟩)
  go_wp2
  refine bodyPost_ret (v := .agg #[.int .u64 (limb n 0), .int .u64 (limb n 8), .int .u64 (limb n 16), .int .u64 (limb n 24)]) (by simp [results, Tryz.results133, go_sem]) rfl ⟨rfl, ?_⟩
  repeat first | exact Below.refl _ _ | refine Below.alloc ?_ (by simp <;> omega) _ | refine Below.setCell ?_ (by simp <;> omega) _ | refine Below.drewN' ?_ _
set_option maxHeartbeats 1000000 in
theorem putWord_walk (b off cap : Nat) (x : Int) (v0 v1 v2 v3 v4 v5 v6 v7 : Value) (w : World)
    (c0 : w.cell? ⟨b, off, none⟩ = some v0) (c1 : w.cell? ⟨b, off + 1, none⟩ = some v1)
    (c2 : w.cell? ⟨b, off + 2, none⟩ = some v2) (c3 : w.cell? ⟨b, off + 3, none⟩ = some v3)
    (c4 : w.cell? ⟨b, off + 4, none⟩ = some v4) (c5 : w.cell? ⟨b, off + 5, none⟩ = some v5)
    (c6 : w.cell? ⟨b, off + 6, none⟩ = some v6) (c7 : w.cell? ⟨b, off + 7, none⟩ = some v7)
    (f0 : w.frozen? ⟨b, off, none⟩ = false) (f1 : w.frozen? ⟨b, off + 1, none⟩ = false)
    (f2 : w.frozen? ⟨b, off + 2, none⟩ = false) (f3 : w.frozen? ⟨b, off + 3, none⟩ = false)
    (f4 : w.frozen? ⟨b, off + 4, none⟩ = false) (f5 : w.frozen? ⟨b, off + 5, none⟩ = false)
    (f6 : w.frozen? ⟨b, off + 6, none⟩ = false) (f7 : w.frozen? ⟨b, off + 7, none⟩ = false) :
    Calls Tryz.prog 139 #[.slice (some ⟨b, off, none⟩) 8 cap, .int .u64 x] w fun e w' => e = .returned (.tuple #[]) ∧
      w' = (((((((w.setCell ⟨b, off, none⟩ (.int .u8 (x % 256))).setCell ⟨b, off + 1, none⟩ (.int .u8 (x / 256 % 256))).setCell ⟨b, off + 2, none⟩ (.int .u8 (x / 65536 % 256))).setCell
        ⟨b, off + 3, none⟩ (.int .u8 (x / 16777216 % 256))).setCell ⟨b, off + 4, none⟩ (.int .u8 (x / 4294967296 % 256))).setCell ⟨b, off + 5, none⟩ (.int .u8 (x / 1099511627776 % 256))).setCell
        ⟨b, off + 6, none⟩ (.int .u8 (x / 281474976710656 % 256))).setCell ⟨b, off + 7, none⟩ (.int .u8 (x / 72057594037927936 % 256)) := by
  go_enter Tryz.func139, Tryz.ntmps139
  go_wp2
  go_end0
  exact ⟨rfl, rfl⟩
/-- All but block b is as it was. -/
structure Only (b : Nat) (w w' : World) : Prop where
  os : w'.os = w.os
  tape : w'.tape = w.tape
  output : w'.output = w.output
  size : w'.heap.size = w.heap.size
  block : ∀ k, k ≠ b → w'.heap[k]? = w.heap[k]?
theorem Only.setCell {b : Nat} {w w' : World} (h : Only b w w') (i : Nat) (v : Value) : Only b w (w'.setCell ⟨b, i, none⟩ v) :=
  ⟨h.os, h.tape, h.output, by rw [← h.size]; simp [World.setCell], fun k hk => by rw [Below.heap_setCell _ _ _ _ hk]; exact h.block k hk⟩
theorem Only.refl (b : Nat) (w : World) : Only b w w := ⟨rfl, rfl, rfl, rfl, fun _ _ => rfl⟩
theorem Only.cell {b : Nat} {w w' : World} (h : Only b w w') (k i : Nat) (hk : k ≠ b) : w'.cell? ⟨k, i, none⟩ = w.cell? ⟨k, i, none⟩ := World.cell?_of_block (w := w) (h.block k hk)
theorem Only.below {b B : Nat} {w w' : World} (h : Only b w w') (hb : B ≤ b) : Below B w w' := ⟨h.os, h.tape, h.output, by rw [h.size]; exact Nat.le_refl _, fun k hk => h.block k (by omega)⟩
/-- The eight bytes of a word, laid from off on. -/
def put8 (cs : Array Value) (off : Nat) (x : Int) : Array Value :=
  (((((((cs.setIfInBounds off (.int .u8 (x % 256))).setIfInBounds (off + 1) (.int .u8 (x / 256 % 256))).setIfInBounds (off + 2) (.int .u8 (x / 65536 % 256))).setIfInBounds
    (off + 3) (.int .u8 (x / 16777216 % 256))).setIfInBounds (off + 4) (.int .u8 (x / 4294967296 % 256))).setIfInBounds (off + 5) (.int .u8 (x / 1099511627776 % 256))).setIfInBounds
    (off + 6) (.int .u8 (x / 281474976710656 % 256))).setIfInBounds (off + 7) (.int .u8 (x / 72057594037927936 % 256))
theorem put8_size (cs : Array Value) (off : Nat) (x : Int) : (put8 cs off x).size = cs.size := by simp [put8]
theorem putWord_any (b off cap : Nat) (x : Int) (cs : Array Value) (t : TypeId) (w : World) (hg : w.heap[b]? = some (.cells cs t (0, 0))) (ho : off + 8 ≤ cs.size) :
    Calls Tryz.prog 139 #[.slice (some ⟨b, off, none⟩) 8 cap, .int .u64 x] w fun e w' => e = .returned (.tuple #[]) ∧ w'.heap[b]? = some (.cells (put8 cs off x) t (0, 0)) ∧ Only b w w' := by
  have c : ∀ i, i < 8 → ∃ v, w.cell? ⟨b, off + i, none⟩ = some v := fun i hi => ⟨cs[off + i]'(by omega), by rw [cell_of_row w b (off + i) cs t _ hg]; exact Array.getElem?_eq_getElem (by omega)⟩
  have f : ∀ i, w.frozen? ⟨b, i, none⟩ = false := fun i => frozen_of_row w b i cs t hg
  obtain ⟨v0, c0⟩ := c 0 (by omega)
  obtain ⟨v1, c1⟩ := c 1 (by omega)
  obtain ⟨v2, c2⟩ := c 2 (by omega)
  obtain ⟨v3, c3⟩ := c 3 (by omega)
  obtain ⟨v4, c4⟩ := c 4 (by omega)
  obtain ⟨v5, c5⟩ := c 5 (by omega)
  obtain ⟨v6, c6⟩ := c 6 (by omega)
  obtain ⟨v7, c7⟩ := c 7 (by omega)
  refine (putWord_walk b off cap x v0 v1 v2 v3 v4 v5 v6 v7 w c0 c1 c2 c3 c4 c5 c6 c7 (f _) (f _) (f _) (f _) (f _) (f _) (f _) (f _)).mono ?_
  rintro e w' ⟨rfl, rfl⟩
  refine ⟨rfl, ?_, ((((((((Only.refl b w).setCell _ _).setCell _ _).setCell _ _).setCell _ _).setCell _ _).setCell _ _).setCell _ _).setCell _ _⟩
  unfold put8
  exact heap_setCell_same _ b _ _ t _ (heap_setCell_same _ b _ _ t _ (heap_setCell_same _ b _ _ t _ (heap_setCell_same _ b _ _ t _ (heap_setCell_same _ b _ _ t _ (heap_setCell_same _ b _ _ t _ (heap_setCell_same _ b _ _ t _ (heap_setCell_same _ b _ _ t _ hg)))))))
end Go.Proofs.YthghcjepdhkfdaaGreatDoor.Fld

/-
  Own text. What store of package field answers, for every four words: a contract over the translation; and laws for whole rows in whatever world.
-/
namespace Go.Proofs.YthghcjepdhkfdaaGreatDoor.Fld
open Go.RowKit Go.Proofs
set_option maxRecDepth 100000
theorem byt_V4_0 {y0 y1 y2 y3 : Int} (_h0 : U64 y0) (_h1 : U64 y1) (_h2 : U64 y2) (_h3 : U64 y3) : byt (V4 y0 y1 y2 y3) 0 = y0 % 256 := by
  unfold U64 at *; unfold byt V4; omega
theorem byt_V4_1 {y0 y1 y2 y3 : Int} (_h0 : U64 y0) (_h1 : U64 y1) (_h2 : U64 y2) (_h3 : U64 y3) : byt (V4 y0 y1 y2 y3) 1 = y0 / 256 % 256 := by
  unfold U64 at *; unfold byt V4; omega
theorem byt_V4_2 {y0 y1 y2 y3 : Int} (_h0 : U64 y0) (_h1 : U64 y1) (_h2 : U64 y2) (_h3 : U64 y3) : byt (V4 y0 y1 y2 y3) 2 = y0 / 65536 % 256 := by
  unfold U64 at *; unfold byt V4; omega
theorem byt_V4_3 {y0 y1 y2 y3 : Int} (_h0 : U64 y0) (_h1 : U64 y1) (_h2 : U64 y2) (_h3 : U64 y3) : byt (V4 y0 y1 y2 y3) 3 = y0 / 16777216 % 256 := by
  unfold U64 at *; unfold byt V4; omega
theorem byt_V4_4 {y0 y1 y2 y3 : Int} (_h0 : U64 y0) (_h1 : U64 y1) (_h2 : U64 y2) (_h3 : U64 y3) : byt (V4 y0 y1 y2 y3) 4 = y0 / 4294967296 % 256 := by
  unfold U64 at *; unfold byt V4; omega
theorem byt_V4_5 {y0 y1 y2 y3 : Int} (_h0 : U64 y0) (_h1 : U64 y1) (_h2 : U64 y2) (_h3 : U64 y3) : byt (V4 y0 y1 y2 y3) 5 = y0 / 1099511627776 % 256 := by
  unfold U64 at *; unfold byt V4; omega
theorem byt_V4_6 {y0 y1 y2 y3 : Int} (_h0 : U64 y0) (_h1 : U64 y1) (_h2 : U64 y2) (_h3 : U64 y3) : byt (V4 y0 y1 y2 y3) 6 = y0 / 281474976710656 % 256 := by
  unfold U64 at *; unfold byt V4; omega
theorem byt_V4_7 {y0 y1 y2 y3 : Int} (_h0 : U64 y0) (_h1 : U64 y1) (_h2 : U64 y2) (_h3 : U64 y3) : byt (V4 y0 y1 y2 y3) 7 = y0 / 72057594037927936 % 256 := by
  unfold U64 at *; unfold byt V4; omega
theorem byt_V4_8 {y0 y1 y2 y3 : Int} (_h0 : U64 y0) (_h1 : U64 y1) (_h2 : U64 y2) (_h3 : U64 y3) : byt (V4 y0 y1 y2 y3) 8 = y1 % 256 := by
  unfold U64 at *; unfold byt V4; omega
theorem byt_V4_9 {y0 y1 y2 y3 : Int} (_h0 : U64 y0) (_h1 : U64 y1) (_h2 : U64 y2) (_h3 : U64 y3) : byt (V4 y0 y1 y2 y3) 9 = y1 / 256 % 256 := by
  unfold U64 at *; unfold byt V4; omega
theorem byt_V4_10 {y0 y1 y2 y3 : Int} (_h0 : U64 y0) (_h1 : U64 y1) (_h2 : U64 y2) (_h3 : U64 y3) : byt (V4 y0 y1 y2 y3) 10 = y1 / 65536 % 256 := by
  unfold U64 at *; unfold byt V4; omega
theorem byt_V4_11 {y0 y1 y2 y3 : Int} (_h0 : U64 y0) (_h1 : U64 y1) (_h2 : U64 y2) (_h3 : U64 y3) : byt (V4 y0 y1 y2 y3) 11 = y1 / 16777216 % 256 := by
  unfold U64 at *; unfold byt V4; omega
theorem byt_V4_12 {y0 y1 y2 y3 : Int} (_h0 : U64 y0) (_h1 : U64 y1) (_h2 : U64 y2) (_h3 : U64 y3) : byt (V4 y0 y1 y2 y3) 12 = y1 / 4294967296 % 256 := by
  unfold U64 at *; unfold byt V4; omega
theorem byt_V4_13 {y0 y1 y2 y3 : Int} (_h0 : U64 y0) (_h1 : U64 y1) (_h2 : U64 y2) (_h3 : U64 y3) : byt (V4 y0 y1 y2 y3) 13 = y1 / 1099511627776 % 256 := by
  unfold U64 at *; unfold byt V4; omega
theorem byt_V4_14 {y0 y1 y2 y3 : Int} (_h0 : U64 y0) (_h1 : U64 y1) (_h2 : U64 y2) (_h3 : U64 y3) : byt (V4 y0 y1 y2 y3) 14 = y1 / 281474976710656 % 256 := by
  unfold U64 at *; unfold byt V4; omega
theorem byt_V4_15 {y0 y1 y2 y3 : Int} (_h0 : U64 y0) (_h1 : U64 y1) (_h2 : U64 y2) (_h3 : U64 y3) : byt (V4 y0 y1 y2 y3) 15 = y1 / 72057594037927936 % 256 := by
  unfold U64 at *; unfold byt V4; omega
theorem byt_V4_16 {y0 y1 y2 y3 : Int} (_h0 : U64 y0) (_h1 : U64 y1) (_h2 : U64 y2) (_h3 : U64 y3) : byt (V4 y0 y1 y2 y3) 16 = y2 % 256 := by
  unfold U64 at *; unfold byt V4; omega
theorem byt_V4_17 {y0 y1 y2 y3 : Int} (_h0 : U64 y0) (_h1 : U64 y1) (_h2 : U64 y2) (_h3 : U64 y3) : byt (V4 y0 y1 y2 y3) 17 = y2 / 256 % 256 := by
  unfold U64 at *; unfold byt V4; omega
theorem byt_V4_18 {y0 y1 y2 y3 : Int} (_h0 : U64 y0) (_h1 : U64 y1) (_h2 : U64 y2) (_h3 : U64 y3) : byt (V4 y0 y1 y2 y3) 18 = y2 / 65536 % 256 := by
  unfold U64 at *; unfold byt V4; omega
theorem byt_V4_19 {y0 y1 y2 y3 : Int} (_h0 : U64 y0) (_h1 : U64 y1) (_h2 : U64 y2) (_h3 : U64 y3) : byt (V4 y0 y1 y2 y3) 19 = y2 / 16777216 % 256 := by
  unfold U64 at *; unfold byt V4; omega
theorem byt_V4_20 {y0 y1 y2 y3 : Int} (_h0 : U64 y0) (_h1 : U64 y1) (_h2 : U64 y2) (_h3 : U64 y3) : byt (V4 y0 y1 y2 y3) 20 = y2 / 4294967296 % 256 := by
  unfold U64 at *; unfold byt V4; omega
theorem byt_V4_21 {y0 y1 y2 y3 : Int} (_h0 : U64 y0) (_h1 : U64 y1) (_h2 : U64 y2) (_h3 : U64 y3) : byt (V4 y0 y1 y2 y3) 21 = y2 / 1099511627776 % 256 := by
  unfold U64 at *; unfold byt V4; omega
theorem byt_V4_22 {y0 y1 y2 y3 : Int} (_h0 : U64 y0) (_h1 : U64 y1) (_h2 : U64 y2) (_h3 : U64 y3) : byt (V4 y0 y1 y2 y3) 22 = y2 / 281474976710656 % 256 := by
  unfold U64 at *; unfold byt V4; omega
theorem byt_V4_23 {y0 y1 y2 y3 : Int} (_h0 : U64 y0) (_h1 : U64 y1) (_h2 : U64 y2) (_h3 : U64 y3) : byt (V4 y0 y1 y2 y3) 23 = y2 / 72057594037927936 % 256 := by
  unfold U64 at *; unfold byt V4; omega
theorem byt_V4_24 {y0 y1 y2 y3 : Int} (_h0 : U64 y0) (_h1 : U64 y1) (_h2 : U64 y2) (_h3 : U64 y3) : byt (V4 y0 y1 y2 y3) 24 = y3 % 256 := by
  unfold U64 at *; unfold byt V4; omega
theorem byt_V4_25 {y0 y1 y2 y3 : Int} (_h0 : U64 y0) (_h1 : U64 y1) (_h2 : U64 y2) (_h3 : U64 y3) : byt (V4 y0 y1 y2 y3) 25 = y3 / 256 % 256 := by
  unfold U64 at *; unfold byt V4; omega
theorem byt_V4_26 {y0 y1 y2 y3 : Int} (_h0 : U64 y0) (_h1 : U64 y1) (_h2 : U64 y2) (_h3 : U64 y3) : byt (V4 y0 y1 y2 y3) 26 = y3 / 65536 % 256 := by
  unfold U64 at *; unfold byt V4; omega
theorem byt_V4_27 {y0 y1 y2 y3 : Int} (_h0 : U64 y0) (_h1 : U64 y1) (_h2 : U64 y2) (_h3 : U64 y3) : byt (V4 y0 y1 y2 y3) 27 = y3 / 16777216 % 256 := by
  unfold U64 at *; unfold byt V4; omega
theorem byt_V4_28 {y0 y1 y2 y3 : Int} (_h0 : U64 y0) (_h1 : U64 y1) (_h2 : U64 y2) (_h3 : U64 y3) : byt (V4 y0 y1 y2 y3) 28 = y3 / 4294967296 % 256 := by
  unfold U64 at *; unfold byt V4; omega
theorem byt_V4_29 {y0 y1 y2 y3 : Int} (_h0 : U64 y0) (_h1 : U64 y1) (_h2 : U64 y2) (_h3 : U64 y3) : byt (V4 y0 y1 y2 y3) 29 = y3 / 1099511627776 % 256 := by
  unfold U64 at *; unfold byt V4; omega
theorem byt_V4_30 {y0 y1 y2 y3 : Int} (_h0 : U64 y0) (_h1 : U64 y1) (_h2 : U64 y2) (_h3 : U64 y3) : byt (V4 y0 y1 y2 y3) 30 = y3 / 281474976710656 % 256 := by
  unfold U64 at *; unfold byt V4; omega
theorem byt_V4_31 {y0 y1 y2 y3 : Int} (_h0 : U64 y0) (_h1 : U64 y1) (_h2 : U64 y2) (_h3 : U64 y3) : byt (V4 y0 y1 y2 y3) 31 = y3 / 72057594037927936 % 256 := by
  unfold U64 at *; unfold byt V4; omega
theorem range32 : List.range 32 = [0, 1, 2, 3, 4, 5, 6, 7, 8, 9, 10, 11, 12, 13, 14, 15, 16, 17, 18, 19, 20, 21, 22, 23, 24, 25, 26, 27, 28, 29, 30, 31] := rfl
theorem put8_all {y0 y1 y2 y3 : Int} (h0 : U64 y0) (h1 : U64 y1) (h2 : U64 y2) (h3 : U64 y3) : put8 (put8 (put8 (put8 (BA 0) 0 y0) 8 y1) 16 y2) 24 y3 = BA (V4 y0 y1 y2 y3) := by
  simp only [put8, BA, range32, List.map_cons, List.map_nil, List.setIfInBounds_toArray, List.set_cons_zero, List.set_cons_succ, Nat.reduceAdd]
  rw [byt_V4_0 h0 h1 h2 h3]
  rw [byt_V4_1 h0 h1 h2 h3]
  rw [byt_V4_2 h0 h1 h2 h3]
  rw [byt_V4_3 h0 h1 h2 h3]
  rw [byt_V4_4 h0 h1 h2 h3]
  rw [byt_V4_5 h0 h1 h2 h3]
  rw [byt_V4_6 h0 h1 h2 h3]
  rw [byt_V4_7 h0 h1 h2 h3]
  rw [byt_V4_8 h0 h1 h2 h3]
  rw [byt_V4_9 h0 h1 h2 h3]
  rw [byt_V4_10 h0 h1 h2 h3]
  rw [byt_V4_11 h0 h1 h2 h3]
  rw [byt_V4_12 h0 h1 h2 h3]
  rw [byt_V4_13 h0 h1 h2 h3]
  rw [byt_V4_14 h0 h1 h2 h3]
  rw [byt_V4_15 h0 h1 h2 h3]
  rw [byt_V4_16 h0 h1 h2 h3]
  rw [byt_V4_17 h0 h1 h2 h3]
  rw [byt_V4_18 h0 h1 h2 h3]
  rw [byt_V4_19 h0 h1 h2 h3]
  rw [byt_V4_20 h0 h1 h2 h3]
  rw [byt_V4_21 h0 h1 h2 h3]
  rw [byt_V4_22 h0 h1 h2 h3]
  rw [byt_V4_23 h0 h1 h2 h3]
  rw [byt_V4_24 h0 h1 h2 h3]
  rw [byt_V4_25 h0 h1 h2 h3]
  rw [byt_V4_26 h0 h1 h2 h3]
  rw [byt_V4_27 h0 h1 h2 h3]
  rw [byt_V4_28 h0 h1 h2 h3]
  rw [byt_V4_29 h0 h1 h2 h3]
  rw [byt_V4_30 h0 h1 h2 h3]
  rw [byt_V4_31 h0 h1 h2 h3]
theorem bheap {B : Nat} {w w' : World} (h : Below B w w') {k : Nat} {o : Obj} (hk : w.heap[k]? = some o) (hB : k < B) : w'.heap[k]? = some o := (h.block k hB).trans hk
theorem heap_lt {w : World} {k : Nat} {o : Obj} (h : w.heap[k]? = some o) : k < w.heap.size := (Array.getElem?_eq_some_iff.1 h).1
theorem only_setRow (w : World) (g : Nat) (cs : Array Value) : Only g w (w.setRow g cs) :=
  ⟨rfl, rfl, rfl, by simp, fun k hk => setRow_other w g k cs hk⟩
/-- A whole row into block g of whatever world: behind it a world of which only this is known. -/
theorem st_row {P : Program} {ops : Array Oper} {rest : List Oper} {o : Oper} {a : Act} {w : World} {Q : Exit → Act → World → Prop} (hgd : o.guard = none) (ty : TypeId) (x y : Operand) (ho : o.op = .store ty x y)
    (g : Nat) (cells : Array Value) (hx : a.eval x = .pointer (some ⟨g, 0, none⟩)) (hy : a.eval y = .agg cells)
    (t : TypeId) (old : Array Value) (hg : w.heap[g]? = some (.cells old t (0, 0))) (hi : (P.info? ty).map (·.size) = some cells.size)
    (hold : old.size = cells.size) (h1 : cells.all (·.oneCell') = true)
    (h : ∀ w2, w2.heap[g]? = some (.cells cells t (0, 0)) → Only g w w2 → wpList P ops Q rest (a.put o.dst undef) w2) : wpList P ops Q (o :: rest) a w :=
  wpList_store_row hgd ty x y ho g cells hx hy t old hg hi hold h1 (h _ (setRow_heap w g old cells t (0, 0) hg) (only_setRow w g cells))
theorem wp_gen {P : Program} {c : Code} {Q : Exit → Act → World → Prop} {a : Act} {w : World} (I : World → Prop) (hI : I w) (h : ∀ w', I w' → c.wp P Q a w') : c.wp P Q a w := h w hI
theorem wrap_0 : IntKind.i64.wrap 0 = 0 := by decide +kernel
theorem wrap_8 : IntKind.i64.wrap 8 = 8 := by decide +kernel
theorem wrap_16 : IntKind.i64.wrap 16 = 16 := by decide +kernel
theorem wrap_24 : IntKind.i64.wrap 24 = 24 := by decide +kernel
theorem wrap_32 : IntKind.i64.wrap 32 = 32 := by decide +kernel
theorem st_limbs {ops : Array Oper} {rest : List Oper} {o : Oper} {a : Act} {w : World} {Q : Exit → Act → World → Prop} (hgd : o.guard = none) (x y : Operand) (ho : o.op = .store 142 x y)
    (g : Nat) (y0 y1 y2 y3 : Int) (hx : a.eval x = .pointer (some ⟨g, 0, none⟩)) (hy : a.eval y = .agg #[.int .u64 y0, .int .u64 y1, .int .u64 y2, .int .u64 y3])
    (v0 v1 v2 v3 : Value) (hg : w.heap[g]? = some (.cells #[v0, v1, v2, v3] 142 (0, 0)))
    (h : ∀ w2, w2.heap[g]? = some (.cells #[.int .u64 y0, .int .u64 y1, .int .u64 y2, .int .u64 y3] 142 (0, 0)) → Only g w w2 → wpList Tryz.prog ops Q rest (a.put o.dst undef) w2) : wpList Tryz.prog ops Q (o :: rest) a w :=
  st_row hgd 142 x y ho g _ hx hy 142 _ hg (by kernel_rfl) rfl (by simp [Value.oneCell']) h
theorem BA_one (n : Int) : (BA n).all (·.oneCell') = true := by simp [BA, Value.oneCell']
theorem info32 : (Tryz.prog.info? 22).map (·.size) = some 32 := by kernel_rfl
theorem st_bytes {ops : Array Oper} {rest : List Oper} {o : Oper} {a : Act} {w : World} {Q : Exit → Act → World → Prop} (hgd : o.guard = none) (x y : Operand) (ho : o.op = .store 22 x y)
    (g : Nat) (n : Int) (hx : a.eval x = .pointer (some ⟨g, 0, none⟩)) (hy : a.eval y = .agg (BA n))
    (old : Array Value) (hg : w.heap[g]? = some (.cells old 22 (0, 0))) (hold : old.size = 32)
    (h : ∀ w2, w2.heap[g]? = some (.cells (BA n) 22 (0, 0)) → Only g w w2 → wpList Tryz.prog ops Q rest (a.put o.dst undef) w2) : wpList Tryz.prog ops Q (o :: rest) a w :=
  st_row hgd 22 x y ho g _ hx hy 22 _ hg (by rw [BA_size]; exact info32) (by rw [BA_size]; exact hold) (BA_one n) h
theorem ld_bytes {ops : Array Oper} {rest : List Oper} {o : Oper} {a : Act} {w : World} {Q : Exit → Act → World → Prop} (hgd : o.guard = none) (x : Operand) (ho : o.op = .load 22 x)
    (g : Nat) (cs : Array Value) (hx : a.eval x = .pointer (some ⟨g, 0, none⟩)) (hg : w.heap[g]? = some (.cells cs 22 (0, 0))) (hs : cs.size = 32)
    (h : wpList Tryz.prog ops Q rest (a.put o.dst (.agg cs)) w) : wpList Tryz.prog ops Q (o :: rest) a w :=
  wpList_load_row hgd 22 x ho g hx 22 cs (0, 0) _ hg Tryz.underlying22 rfl (by rw [hs]; exact info32) h
set_option maxHeartbeats 1000000 in
theorem store_any (x0 x1 x2 x3 : Int) (w : World) (h0 : U64 x0) (h1 : U64 x1) (h2 : U64 x2) (h3 : U64 x3) :
    Calls Tryz.prog 105 #[.agg #[.int .u64 x0, .int .u64 x1, .int .u64 x2, .int .u64 x3]] w fun e w' =>
      e = .returned (.agg (BA (V4 x0 x1 x2 x3 % P255))) ∧ Below w.heap.size w w' := by
  have e0 := wrap_0
  have e8 := wrap_8
  have e16 := wrap_16
  have e24 := wrap_24
  have e32 := wrap_32
  go_enter Tryz.func105, Tryz.ntmps105
  go_wp2_with fail
  refine (least_any _ _ _ _ _ h0 h1 h2 h3).mono ?_
  rintro e w1 ⟨y0, y1, y2, y3, hy0, hy1, hy2, hy3, e1, rfl, hb1⟩
  have E1 := Hid.mk e1
  clear e1
  have g1 := bheap hb1 (heap_alloc2_old w _ _) (by simp <;> omega)
  have g2 := bheap hb1 (heap_alloc2_new w _ _) (by simp <;> omega)
  have hB1 : Hid (Below w.heap.size w w1) := Below.trans (((Below.refl _ _).alloc (Nat.le_refl _) _).alloc (by simp) _) (hb1.mono (by simp <;> omega))
  clear hb1
  go_wp2_with (refine st_limbs rfl _ _ rfl _ _ _ _ _ rfl rfl _ _ _ _ g1 ?_; intro w2 g1 o2; have g2 := (o2.block _ (by omega)).trans g2; have hB2 : Hid (Below w.heap.size w w2) := Below.trans hB1.out (o2.below (Nat.le_refl _)); clear o2)
  have hz : w.heap.size + 1 < w2.heap.size := heap_lt g2
  refine wp_gen (fun w3 => w3.heap[w.heap.size]? = some (.cells #[.int .u64 y0, .int .u64 y1, .int .u64 y2, .int .u64 y3] 142 (0, 0)) ∧
    (∃ z : Array Value, w3.heap[w.heap.size + 1]? = some (.cells z 22 (0, 0)) ∧ z.size = 32) ∧ w3.heap[w2.heap.size]? = some (.cells (BA 0) 22 (0, 0)) ∧ Below w.heap.size w w3)
    ⟨(Below.heap_alloc _ _ _ (by omega)).trans g1, ⟨_, (Below.heap_alloc _ _ _ (by omega)).trans g2, rfl⟩, heap_alloc_new _ _, hB2.out.alloc (by omega) _⟩ ?_
  generalize w2.heap.size = b3 at *
  clear g1 g2 hB2
  rintro w3 ⟨g1, ⟨z, g2, sz⟩, g3, hB3⟩
  have cN : ∀ i, w3.cell? ⟨w.heap.size, i, none⟩ = _ := fun i => cell_of_row _ _ i _ _ _ g1
  refine wp_loop_rounds 5 ?_
  rw [rounds_succ]
  go_wp2
  go_region_with (go_at_call 139; refine (putWord_any _ _ _ _ (BA 0) 22 _ ?_ ?_).mono ?_; exact g3; (simp only [BA_size]; omega); rintro e v0 ⟨rfl, p0, o0⟩)
  have g3 := p0
  have g2 := (o0.block _ (by omega)).trans g2
  have cN := fun i => (o0.cell w.heap.size i (by omega)).trans (cN i)
  have hB3 := Below.trans (Below.drew hB3) (Only.below (b := b3) (B := w.heap.size) o0 (by omega))
  clear o0 p0
  go_wp2
  rw [rounds_succ]
  go_wp2
  go_region_with (go_at_call 139; refine (putWord_any _ _ _ _ (put8 (BA 0) 0 y0) 22 _ ?_ ?_).mono ?_; exact g3; (simp only [put8_size, BA_size]; omega); rintro e v1 ⟨rfl, p1, o1⟩)
  have g3 := p1
  have g2 := (o1.block _ (by omega)).trans g2
  have cN := fun i => (o1.cell w.heap.size i (by omega)).trans (cN i)
  have hB3 := Below.trans (Below.drew hB3) (Only.below (b := b3) (B := w.heap.size) o1 (by omega))
  clear o1 p1
  go_wp2
  rw [rounds_succ]
  go_wp2
  go_region_with (go_at_call 139; refine (putWord_any _ _ _ _ (put8 (put8 (BA 0) 0 y0) 8 y1) 22 _ ?_ ?_).mono ?_; exact g3; (simp only [put8_size, BA_size]; omega); rintro e v2 ⟨rfl, p2, o2⟩)
  have g3 := p2
  have g2 := (o2.block _ (by omega)).trans g2
  have cN := fun i => (o2.cell w.heap.size i (by omega)).trans (cN i)
  have hB3 := Below.trans (Below.drew hB3) (Only.below (b := b3) (B := w.heap.size) o2 (by omega))
  clear o2 p2
  go_wp2
  rw [rounds_succ]
  go_wp2
  go_region_with (go_at_call 139; refine (putWord_any _ _ _ _ (put8 (put8 (put8 (BA 0) 0 y0) 8 y1) 16 y2) 22 _ ?_ ?_).mono ?_; exact g3; (simp only [put8_size, BA_size]; omega); rintro e v3 ⟨rfl, p3, o3⟩)
  have g3 := p3
  have g2 := (o3.block _ (by omega)).trans g2
  have cN := fun i => (o3.cell w.heap.size i (by omega)).trans (cN i)
  have hB3 := Below.trans (Below.drew hB3) (Only.below (b := b3) (B := w.heap.size) o3 (by omega))
  clear o3 p3
  go_wp2
  rw [put8_all hy0 hy1 hy2 hy3] at g3
  rw [rounds_succ]
  go_wp2_with (first | (refine ld_bytes rfl _ rfl _ _ rfl g3 (BA_size _) ?_) | (refine st_bytes rfl _ _ rfl _ _ rfl rfl _ g2 sz ?_; intro w5 g5 o5))
  refine bodyPost_ret (v := .agg (BA (V4 x0 x1 x2 x3 % P255))) ?_ rfl ⟨rfl, Below.trans hB3 (Only.below (b := w.heap.size + 1) (B := w.heap.size) o5 (by omega))⟩
  rw [← E1.out]
  exact results_cell_row rfl _ _ _ _ _ _ _ rfl g5 Tryz.underlying22 rfl (by rw [BA_size]; exact info32)
end Go.Proofs.YthghcjepdhkfdaaGreatDoor.Fld

/-
  Own text. What plus of package field answers, for every two numbers of four words: a contract over the translation.
-/
namespace Go.Proofs.YthghcjepdhkfdaaGreatDoor.Fld
open Go.RowKit Go.Proofs
set_option maxRecDepth 100000
theorem add64_all {x y c : Int} (hx : U64 x) (hy : U64 y) (hc : Bit c) :
    ∃ lo hi, Sum3 x y c lo hi ∧ ∀ w, (callFunc 196 #[.int .u64 x, .int .u64 y, .int .u64 c]).run Tryz.prog w =
      .ok (.value (.tuple #[.int .u64 lo, .int .u64 hi])) w := by
  obtain ⟨lo, hi, hs, _⟩ := add64_run x y c hx hy hc default
  refine ⟨lo, hi, hs, fun w => ?_⟩
  obtain ⟨lo', hi', hs', e⟩ := add64_run x y c hx hy hc w
  have e1 : lo' = lo ∧ hi' = hi := by unfold Sum3 U64 Bit at hs hs'; omega
  rw [e, e1.1, e1.2]
theorem heap_a3 (w : World) (A B C : Obj) : (((w.alloc A).alloc B).alloc C).heap[w.heap.size + 1 + 1]? = some C := by
  have := heap_alloc_new ((w.alloc A).alloc B) C
  simpa using this
theorem bit_range {c : Int} (h : Bit c) : 0 ≤ c ∧ c ≤ 1 := by unfold Bit at h; omega
theorem plus_num {x0 x1 x2 x3 y0 y1 y2 y3 z0 z1 z2 z3 c0 c1 c2 c3 : Int} (s0 : Sum3 x0 y0 0 z0 c0) (s1 : Sum3 x1 y1 c0 z1 c1) (s2 : Sum3 x2 y2 c1 z2 c2) (s3 : Sum3 x3 y3 c2 z3 c3) :
    V4 z0 z1 z2 z3 + W256 * c3 = V4 x0 x1 x2 x3 + V4 y0 y1 y2 y3 := by
  unfold Sum3 at s0 s1 s2 s3
  unfold V4 W256
  omega
set_option maxHeartbeats 1000000 in
theorem plus_any (x0 x1 x2 x3 y0 y1 y2 y3 : Int) (w : World) (h0 : U64 x0) (h1 : U64 x1) (h2 : U64 x2) (h3 : U64 x3) (k0 : U64 y0) (k1 : U64 y1) (k2 : U64 y2) (k3 : U64 y3) :
    Calls Tryz.prog 194 #[.agg #[.int .u64 x0, .int .u64 x1, .int .u64 x2, .int .u64 x3], .agg #[.int .u64 y0, .int .u64 y1, .int .u64 y2, .int .u64 y3]] w fun e w' =>
      ∃ z0 z1 z2 z3, U64 z0 ∧ U64 z1 ∧ U64 z2 ∧ U64 z3 ∧ (∃ k : Int, V4 z0 z1 z2 z3 = V4 x0 x1 x2 x3 + V4 y0 y1 y2 y3 + k * P255) ∧
        e = .returned (.agg #[.int .u64 z0, .int .u64 z1, .int .u64 z2, .int .u64 z3]) ∧ Below w.heap.size w w' := by
  obtain ⟨z0, c0, s0, r0⟩ := add64_all h0 k0 bit0
  obtain ⟨z1, c1, s1, r1⟩ := add64_all h1 k1 s0.hi
  obtain ⟨z2, c2, s2, r2⟩ := add64_all h2 k2 s1.hi
  obtain ⟨z3, c3, s3, r3⟩ := add64_all h3 k3 s2.hi
  go_enter Tryz.func194, Tryz.ntmps194
  go_wp2
  refine wp_loop_rounds 5 ?_
  rw [rounds_succ]
  go_wp2
  go_region
  go_wp2
  rw [rounds_succ]
  go_wp2
  go_region
  go_wp2
  rw [rounds_succ]
  go_wp2
  go_region
  go_wp2
  rw [rounds_succ]
  go_wp2
  go_region
  go_wp2
  rw [rounds_succ]
  clear r0 r1 r2 r3
  have hc := bit_range s3.hi
  have hc0 := hc.1
  have hc1 := hc.2
  go_wp2_with fail
  refine (fold_any _ _ _ _ _ _ s0.lo s1.lo s2.lo s3.lo (by omega) (by omega)).mono ?_
  rintro e w1 ⟨q0, q1, q2, q3, hq0, hq1, hq2, hq3, ⟨k, ek⟩, rfl, hb1⟩
  have g4 := bheap hb1 (heap_a3 w _ _ _) (by simp <;> omega)
  have hB1 : Hid (Below w.heap.size w w1) := by
    refine Below.trans ?_ (hb1.mono (by simp <;> omega))
    repeat first | exact Below.refl _ _ | refine Below.alloc ?_ (by simp <;> omega) _ | refine Below.drew ?_ | refine Below.drewN' ?_ _
  clear hb1
  have EK := Hid.mk ek
  clear ek
  go_wp2_with (refine st_limbs rfl _ _ rfl _ _ _ _ _ rfl rfl _ _ _ _ g4 ?_; intro w2 g5 o5)
  refine bodyPost_ret (v := .agg #[.int .u64 q0, .int .u64 q1, .int .u64 q2, .int .u64 q3]) (results_cell_row rfl _ _ _ _ _ _ _ rfl g5 Tryz.underlying142 rfl (by kernel_rfl)) rfl
    ⟨q0, q1, q2, q3, hq0, hq1, hq2, hq3, ⟨k, ?_⟩, rfl, Below.trans hB1.out (Only.below (b := w.heap.size + 1 + 1) (B := w.heap.size) o5 (by omega))⟩
  rw [EK.out, plus_num s0 s1 s2 s3]
end Go.Proofs.YthghcjepdhkfdaaGreatDoor.Fld

/-
  Own text. What math/bits.Mul64, math/bits.Sub64 and opposite of package field answer: contracts over the translation.
-/
namespace Go.Proofs.YthghcjepdhkfdaaGreatDoor.Fld
open Go.RowKit Go.Proofs
set_option maxRecDepth 100000
theorem mul64_hi (x y : Int) (hx : U64 x) (hy : U64 y) :
    IntKind.u64.wrap
      (IntKind.u64.wrap
          (IntKind.u64.wrap (x / 4294967296 * (y / 4294967296)) +
            IntKind.u64.wrap
                (IntKind.u64.wrap (x / 4294967296 * bits BinOp.and IntKind.u64 y 4294967295) +
                  IntKind.u64.wrap (bits BinOp.and IntKind.u64 x 4294967295 * bits BinOp.and IntKind.u64 y 4294967295) / 4294967296) /
              4294967296) +
        IntKind.u64.wrap
            (bits BinOp.and IntKind.u64
                (IntKind.u64.wrap
                  (IntKind.u64.wrap (x / 4294967296 * bits BinOp.and IntKind.u64 y 4294967295) +
                    IntKind.u64.wrap (bits BinOp.and IntKind.u64 x 4294967295 * bits BinOp.and IntKind.u64 y 4294967295) / 4294967296))
                4294967295 +
              IntKind.u64.wrap (bits BinOp.and IntKind.u64 x 4294967295 * (y / 4294967296))) /
          4294967296) = x * y / 18446744073709551616 := by
  rw [and_low32 x hx.1 hx.2, and_low32 y hy.1 hy.2]
  simp only [IntKind.wrap_u64]
  rw [and_low32 (_ % 18446744073709551616) (by omega) (by omega)]
  exact mul64_arith x y hx.1 hx.2 hy.1 hy.2
theorem ret_two {k : IntKind} {a b c d : Int} (h : a = b) (h' : c = d) : Ending.returned (.tuple #[.int k a, .int k c]) = .returned (.tuple #[.int k b, .int k d]) := by rw [h, h']
set_option maxHeartbeats 1000000 in
theorem mul64_any (x y : Int) (w : World) (hx : U64 x) (hy : U64 y) :
    Calls Tryz.prog 195 #[.int .u64 x, .int .u64 y] w fun e w' => e = .returned (.tuple #[.int .u64 (x * y / 18446744073709551616), .int .u64 (x * y % 18446744073709551616)]) ∧ w' = w := by
  have H := Hid.mk (mul64_hi x y hx hy)
  go_enter Tryz.func195, Tryz.ntmps195
  go_wp2
  go_ret2
  exact ⟨ret_two H.out (IntKind.wrap_u64 _), rfl⟩
/-- lo and hi are the low word and the borrow of x - y - b. -/
def Dif3 (x y b lo hi : Int) : Prop := U64 lo ∧ Bit hi ∧ lo = x - y - b + 18446744073709551616 * hi
theorem Dif3.lo {x y c lo hi : Int} (h : Dif3 x y c lo hi) : U64 lo := h.1
theorem Dif3.hi {x y c lo hi : Int} (h : Dif3 x y c lo hi) : Bit hi := h.2.1
theorem sub64_all {x y b : Int} (hx : U64 x) (hy : U64 y) (hb : Bit b) :
    ∃ lo hi, Dif3 x y b lo hi ∧ ∀ w, (callFunc 140 #[.int .u64 x, .int .u64 y, .int .u64 b]).run Tryz.prog w =
      .ok (.value (.tuple #[.int .u64 lo, .int .u64 hi])) w := by
  unfold U64 at hx hy
  unfold Bit at hb
  obtain ⟨X, rfl⟩ := Int.eq_ofNat_of_zero_le hx.1
  obtain ⟨Y, rfl⟩ := Int.eq_ofNat_of_zero_le hy.1
  obtain ⟨B, rfl⟩ := Int.eq_ofNat_of_zero_le (show 0 ≤ b by omega)
  refine ⟨(((X + 18446744073709551616 - Y - B) % 18446744073709551616 : Nat) : Int), ((if X < Y + B then 1 else 0 : Nat) : Int), ?_, fun w => ?_⟩
  · unfold Dif3 U64 Bit
    split <;> omega
  · rw [run_callFunc_extern Tryz.func140 (by kernel_rfl) (by kernel_rfl) (by kernel_rfl) (e := sub64Entry) (by kernel_rfl), run_sub64 X Y B (by omega)]
    rfl
/-- The cells of the package's variable 'prime'. -/
def PrimeAt (w : World) : Prop := w.cell? ⟨0, 0, none⟩ = some (.int .u64 18446744073709551597) ∧ w.cell? ⟨0, 1, none⟩ = some (.int .u64 18446744073709551615) ∧
  w.cell? ⟨0, 2, none⟩ = some (.int .u64 18446744073709551615) ∧ w.cell? ⟨0, 3, none⟩ = some (.int .u64 9223372036854775807)
theorem primeAt_below {B : Nat} {w w' : World} (h : PrimeAt w) (hb : Below B w w') (hB : 0 < B) : PrimeAt w' :=
  ⟨(hb.cell hB).trans h.1, (hb.cell hB).trans h.2.1, (hb.cell hB).trans h.2.2.1, (hb.cell hB).trans h.2.2.2⟩
theorem primeAt_pos {w : World} (h : PrimeAt w) : 0 < w.heap.size := World.block_lt_of_cell? w _ h.1
theorem opp_num {x0 x1 x2 x3 z0 z1 z2 z3 b0 b1 b2 b3 : Int} (h0 : U64 x0) (h1 : U64 x1) (h2 : U64 x2) (h3 : U64 x3) (hx : V4 x0 x1 x2 x3 ≤ P255)
    (s0 : Dif3 18446744073709551597 x0 0 z0 b0) (s1 : Dif3 18446744073709551615 x1 b0 z1 b1) (s2 : Dif3 18446744073709551615 x2 b1 z2 b2) (s3 : Dif3 9223372036854775807 x3 b2 z3 b3) :
    V4 z0 z1 z2 z3 = P255 - V4 x0 x1 x2 x3 := by
  have hz := V4_range s0.lo s1.lo s2.lo s3.lo
  have hb := s3.hi
  unfold Dif3 at s0 s1 s2 s3
  have e : V4 z0 z1 z2 z3 = P255 - V4 x0 x1 x2 x3 + W256 * b3 := by unfold V4 P255 W256; omega
  have hv := V4_range h0 h1 h2 h3
  unfold Bit at hb
  generalize V4 z0 z1 z2 z3 = Z at *
  generalize V4 x0 x1 x2 x3 = X at *
  unfold P255 W256 at *
  rcases hb with rfl | rfl <;> omega
set_option maxHeartbeats 1000000 in
theorem opposite_any (x0 x1 x2 x3 : Int) (w : World) (hP : PrimeAt w) (h0 : U64 x0) (h1 : U64 x1) (h2 : U64 x2) (h3 : U64 x3) (hx : V4 x0 x1 x2 x3 ≤ P255) :
    Calls Tryz.prog 106 #[.agg #[.int .u64 x0, .int .u64 x1, .int .u64 x2, .int .u64 x3]] w fun e w' =>
      ∃ z0 z1 z2 z3, U64 z0 ∧ U64 z1 ∧ U64 z2 ∧ U64 z3 ∧ V4 z0 z1 z2 z3 = P255 - V4 x0 x1 x2 x3 ∧
        e = .returned (.agg #[.int .u64 z0, .int .u64 z1, .int .u64 z2, .int .u64 z3]) ∧ Below w.heap.size w w' := by
  obtain ⟨z0, c0, s0, r0⟩ := sub64_all (x := 18446744073709551597) (by unfold U64; omega) h0 bit0
  obtain ⟨z1, c1, s1, r1⟩ := sub64_all (x := 18446744073709551615) (by unfold U64; omega) h1 s0.hi
  obtain ⟨z2, c2, s2, r2⟩ := sub64_all (x := 18446744073709551615) (by unfold U64; omega) h2 s1.hi
  obtain ⟨z3, c3, s3, r3⟩ := sub64_all (x := 9223372036854775807) (by unfold U64; omega) h3 s2.hi
  have HX := Hid.mk hx
  clear hx
  have hw0 : 0 < w.heap.size := primeAt_pos hP
  obtain ⟨q0, q1, q2, q3⟩ := hP
  go_enter Tryz.func106, Tryz.ntmps106
  go_wp2
  refine wp_loop_rounds 5 ?_
  rw [rounds_succ]
  go_wp2
  go_region
  go_wp2
  rw [rounds_succ]
  go_wp2
  go_region
  go_wp2
  rw [rounds_succ]
  go_wp2
  go_region
  go_wp2
  rw [rounds_succ]
  go_wp2
  go_region
  go_wp2
  rw [rounds_succ]
  go_wp2
  refine bodyPost_ret (v := .agg #[.int .u64 z0, .int .u64 z1, .int .u64 z2, .int .u64 z3]) (by simp [results, Tryz.results106, go_sem]) rfl
    ⟨z0, z1, z2, z3, s0.lo, s1.lo, s2.lo, s3.lo, opp_num h0 h1 h2 h3 HX.out s0 s1 s2 s3, rfl, ?_⟩
  repeat first | exact Below.refl _ _ | refine Below.alloc ?_ (by simp <;> omega) _ | refine Below.drew ?_ | refine Below.drewN' ?_ _
end Go.Proofs.YthghcjepdhkfdaaGreatDoor.Fld

/-
  Own text. What the tied condition on the variables 'prime', 'beginnings' and 'orders' gives; arguments.
-/
namespace Go.Proofs.YthghcjepdhkfdaaGreatDoor
open Go.ChangeShapes Go.WideShapes Go.ChangeAt Go.WideMaps Go.WideElems Go.RowKit Go.Proofs
set_option maxRecDepth 100000
theorem own : ownKnob Tryz.prog.godebug = none := by kernel_rfl
def laidP : List (String × DataW Unit) := Rows.noiseBeginsRow.laid
def priName : String := (laidP.map (·.1)).getD 0 "none"
def begName : String := (laidP.map (·.1)).getD 1 "none"
def ordName : String := (laidP.map (·.1)).getD 2 "none"
theorem gPri : Tryz.prog.globalNamed priName = some 0 := by kernel_rfl
theorem tPri : (Tryz.prog.globals[0]?).map (·.type) = some 142 := by kernel_rfl
theorem cellsU64 : Tryz.prog.cellsOf 98 = 1 := by kernel_rfl
theorem gBeg : Tryz.prog.globalNamed begName = some 1 := by kernel_rfl
theorem gOrd : Tryz.prog.globalNamed ordName = some 2 := by kernel_rfl
theorem tBeg : (Tryz.prog.globals[1]?).map (·.type) = some 193 := by kernel_rfl
theorem tOrd : (Tryz.prog.globals[2]?).map (·.type) = some 255 := by kernel_rfl
theorem cellsU32 : Tryz.prog.cellsOf 23 = 1 := by kernel_rfl
theorem cells16 : Tryz.prog.cellsOf 54 = 16 := by kernel_rfl
theorem bgn_list (i : Nat) (hi : i < 8) : ([.lit (.int .u32 1779033703), .lit (.int .u32 3144134277), .lit (.int .u32 1013904242), .lit (.int .u32 2773480762), .lit (.int .u32 1359893119), .lit (.int .u32 2600822924), .lit (.int .u32 528734635), .lit (.int .u32 1541459225)] : List (DataW Unit))[i]? = some (.lit (.int .u32 (bgn i))) := by
  match i, hi with
  | 0, _ => rfl
  | 1, _ => rfl
  | 2, _ => rfl
  | 3, _ => rfl
  | 4, _ => rfl
  | 5, _ => rfl
  | 6, _ => rfl
  | 7, _ => rfl
/-- A row of the ten, as data. -/
def ordD (s : Nat) : List (DataW Unit) := (List.range 16).map fun i => .lit (.int .u8 (ordI s i))
theorem ord_data : (Rows.laid_adit_blake_orders : DataW Unit) = .agg ((List.range 10).map fun s => .agg (ordD s)) := by kernel_rfl
theorem door_met (os : Os) (args : Array Value) : laidMet Tryz.prog laidP ((World.doorLaid Tryz.prog 400 os).forCall (fun _ _ => 0) ⟨#[], args, []⟩).memory :=
  laidMet_of_run' 8 (by kernel_rfl) (by kernel_rfl)
/-- What the condition on the variables gives the walks. -/
theorem laid_all {W : World} (h : laidMetH Tryz.prog laidP W) : Tabs W ∧ Fld.PrimeAt W := by
  rw [MakeChecks.laidMetH_plain _ _ _ (by kernel_rfl)] at h
  obtain ⟨ps, ⟨g2, t2, cs2, f2, p2, q2, hg2, ht2, hv2, hd2, hrest0, _⟩, _⟩ := h
  obtain ⟨g0, t0, cs0, f0, p0, q0, hg0, ht0, hv0, hd0, hrest, _⟩ := hrest0
  obtain ⟨g1, t1, cs1, f1, p1, q1, hg1, ht1, hv1, hd1, _, _⟩ := hrest
  obtain rfl := Option.some.inj (gPri.symm.trans hg2)
  obtain rfl := Option.some.inj (tPri.symm.trans ht2)
  obtain rfl := Option.some.inj (gBeg.symm.trans hg0)
  obtain rfl := Option.some.inj (tBeg.symm.trans ht0)
  obtain rfl := Option.some.inj (gOrd.symm.trans hg1)
  obtain rfl := Option.some.inj (tOrd.symm.trans ht1)
  refine ⟨⟨fun i hi => ?_, fun s hs i hi => ?_⟩, ?_⟩
  · obtain ⟨xs, m1, rfl, hx1, hlen, hn8, hel⟩ := DataW.trod_array Tryz.underlying193 hd0
    simp only [Prod.mk.injEq, Rows.laid_adit_blake_beginnings, DataW.agg.injEq] at hx1
    have hk := bgn_list i hi
    rw [hx1.1] at hk
    have h0 := hel i hi
    rw [cellsU32, Nat.mul_one] at h0
    have hxi : i < xs.length := by omega
    rw [List.getElem?_eq_getElem hxi] at h0
    obtain ⟨k', e1, e2, _⟩ := DataW.trod_int Tryz.underlying23 h0
    have hk2 : k' = bgn i := by
      rw [List.getElem?_map, List.getElem?_eq_getElem hxi, e2] at hk
      simpa using hk
    subst hk2
    rw [World.var?_cell hg0 hv0 i]
    have : cs0.toList[i]? = some (.int .u32 (bgn i)) := by
      have h2 := congrArg (fun l => l[0]?) e1
      simpa [List.getElem?_take, List.getElem?_drop] using h2
    simpa using this
  · obtain ⟨xs, m1, rfl, hx1, hlen, hn10, hel⟩ := DataW.trod_array Tryz.underlying255 hd1
    rw [ord_data] at hx1
    simp only [Prod.mk.injEq, DataW.agg.injEq] at hx1
    have hxs : s < xs.length := by omega
    have hr : (xs[s]).1 = .agg (ordD s) := by
      have := congrArg (fun l => l[s]?) hx1.1
      simp [hs, hxs] at this
      exact this.symm
    have h0 := hel s hs
    rw [cells16, List.getElem?_eq_getElem hxs] at h0
    obtain ⟨ys, m2, rfl, hy, hlen2, hn16, hel2⟩ := DataW.trod_array Tryz.underlying54 h0
    have hyd : ys.map (·.1) = ordD s := by
      have h3 := congrArg Prod.fst hy
      rw [hr] at h3
      simpa using h3.symm
    have hyi : i < ys.length := by omega
    have h1 := hel2 i hi
    rw [cells5, Nat.mul_one, List.getElem?_eq_getElem hyi] at h1
    obtain ⟨k', e1, e2, _⟩ := DataW.trod_int Tryz.underlying5 h1
    have hk2 : k' = ordI s i := by
      have h4 := congrArg (fun l => l[i]?) hyd
      simp only [List.getElem?_map, List.getElem?_eq_getElem hyi, e2, Option.map_some, ordD] at h4
      simpa [hi] using h4
    subst hk2
    rw [World.var?_cell hg1 hv1 (s * 16 + i)]
    have : cs1.toList[s * 16 + i]? = some (.int .u8 (ordI s i)) := by
      have h2 := congrArg (fun l => l[0]?) e1
      simpa [List.getElem?_take, List.getElem?_drop, hi] using h2
    simpa using this
  · obtain ⟨xs, m1, rfl, hx1, hlen, hn4, hel⟩ := DataW.trod_array Tryz.underlying142 hd2
    simp only [Prod.mk.injEq, Rows.laid_adit_field_prime, DataW.agg.injEq] at hx1
    have key : ∀ i, i < 4 → ∀ k : Int, (xs.map (·.1))[i]? = some (.lit (.int .u64 k)) → W.cell? ⟨0, i, none⟩ = some (.int .u64 k) := fun i hi k hk => by
      have h0 := hel i hi
      rw [cellsU64, Nat.mul_one] at h0
      have hxi : i < xs.length := by omega
      rw [List.getElem?_eq_getElem hxi] at h0
      obtain ⟨k', e1, e2, _⟩ := DataW.trod_int Tryz.underlying98 h0
      have hk2 : k' = k := by
        rw [List.getElem?_map, List.getElem?_eq_getElem hxi, e2] at hk
        simpa using hk
      subst hk2
      have hc := World.var?_cell hg2 hv2 i
      rw [hc]
      have : cs2.toList[i]? = some (.int .u64 k') := by
        have h2 := congrArg (fun l => l[0]?) e1
        simpa [List.getElem?_take, List.getElem?_drop] using h2
      simpa using this
    rw [← hx1.1] at key
    exact ⟨key 0 (by omega) _ rfl, key 1 (by omega) _ rfl, key 2 (by omega) _ rfl, key 3 (by omega) _ rfl⟩
end Go.Proofs.YthghcjepdhkfdaaGreatDoor

/-
  Own text. What take of the document's answer for blake does.
-/
namespace Go.Proofs.YthghcjepdhkfdaaGreatDoor
open Go.RowKit Go.Proofs
set_option maxRecDepth 100000
theorem begV_false (h V0 : Nat → Int) (t : Int) (h0 : ∀ q, q < 16 → V0 q = if q < 8 then h q else bgn (q - 8)) : ∀ i, i < 16 → upd (upd V0 12 (xorw (V0 12) (t % 4294967296))) 13 (xorw (upd V0 12 (xorw (V0 12) (t % 4294967296)) 13) (t / 4294967296)) i = begV h t false i := fun i hi => by
  have h12 : V0 12 = bgn 4 := h0 12 (by omega)
  have h13 : V0 13 = bgn 5 := h0 13 (by omega)
  unfold upd begV
  by_cases e13 : i = 13
  · subst e13; simp [h13]
  · by_cases e12 : i = 12
    · subst e12; simp [h12]
    · simp [e12, e13, h0 i hi]
theorem begV_true (h V2 : Nat → Int) (t : Int) (h0 : ∀ q, q < 16 → V2 q = begV h t false q) : ∀ i, i < 16 → upd V2 14 (xorw (V2 14) 4294967295) i = begV h t true i := fun i hi => by
  have h14 : V2 14 = bgn 6 := h0 14 (by omega)
  unfold upd
  by_cases e14 : i = 14
  · subst e14; rw [if_pos rfl, h14]; rfl
  · rw [if_neg e14, h0 i hi]
    unfold begV
    simp [e14]
end Go.Proofs.YthghcjepdhkfdaaGreatDoor

/-
  Own text. What Hash of the document's answer for blake gives.
-/
namespace Go.Proofs.YthghcjepdhkfdaaGreatDoor
open Go.RowKit Go.Proofs
set_option maxRecDepth 100000
/-- The state that a hash begins with. -/
def h0F (size kl : Nat) : Nat → Int := upd bgn 0 (xorw (xorw (xorw (bgn 0) 16842752) (256 * (kl : Int))) (size : Int))
/-- The state behind k blocks. -/
def stF (all : ByteArray) (h0 : Nat → Int) : Nat → Nat → Int
  | 0 => h0
  | k + 1 => takeF (stF all h0 k) (fun j => txt all (64 * k + j)) ((64 * k + min 64 (all.size - 64 * k) : Nat) : Int) (decide (64 * k + min 64 (all.size - 64 * k) = all.size))
/-- How many blocks there are. -/
def nbF (n : Nat) : Nat := if n = 0 then 1 else (n + 63) / 64
/-- The bytes of a state. -/
def outF (h : Nat → Int) (i : Nat) : Int := h (i / 4) / 256 ^ (i % 4) % 256
theorem outF_b (h : Nat → Int) (i : Nat) : 0 ≤ outF h i ∧ outF h i < 256 := by unfold outF; omega
theorem h0F_w {size kl : Nat} (hs : size ≤ 64) (hk : kl ≤ 64) : ∀ i, i < 8 → W32 (h0F size kl i) := w32_upd (fun i _ => bgn_w i) (xorw_w (xorw_w (xorw_w (bgn_w 0) (by unfold W32; omega)) (by unfold W32; omega)) (by unfold W32; omega))
theorem exec_addV {a : Act} {o : Oper} {w : World} {x y : Operand} (ho : o.op = .binOp .add 3 x y 3) {m n q : Nat} (hx : a.eval x = .int .i64 (m : Int)) (hy : a.eval y = .int .i64 (n : Int)) (e : m + n = q) (h : m + n < 9223372036854775808) : (execOp a.eval o).run Tryz.prog w = .ok (.value (.int .i64 (q : Int))) w := e ▸ exec_addN ho hx hy h
theorem run_makeB (n : Nat) (hn : n ≤ 64) (w : World) : (Instr.makeSlice 81 (.int .i64 (n : Int)) (.int .i64 (n : Int))).run Tryz.prog w = .ok (.slice (some ⟨w.heap.size, 0, none⟩) n n) (w.alloc (.cells (WA .u8 n fun _ => 0) 5)) := by
  have hm := run_make_row' (P := Tryz.prog) 81 5 (.int .u8 0) 1 Tryz.underlying81 infoByte rfl .i64 .i64 n (by omega) (by omega) w
  rw [made_WA] at hm
  exact hm
theorem wl_makeB {ops : Array Oper} {rest : List Oper} {d : Option Tmp} {x y : Operand} {ty : TypeId} {ps : String} {af : Array Edge} {a : Act} {w : World} {Q : Exit → Act → World → Prop} {n : Nat} (hx : a.eval x = .int .i64 (n : Int)) (hy : a.eval y = .int .i64 (n : Int)) (hn : n ≤ 64)
    (h : ∀ w', ArrAt w' w.heap.size .u8 5 n (fun _ => 0) → Below w.heap.size w w' → wpList Tryz.prog ops Q rest (a.put d (.slice (some ⟨w.heap.size, 0, none⟩) n n)) w') :
    wpList Tryz.prog ops Q ({ dst := d, op := .makeSlice 81 x y, type := ty, pos := ps, after := af, guard := none } :: rest) a w := by
  have hr := run_makeB n hn w
  refine wl_act rfl ?_
  unfold Oper.wp execOp
  simp only [hx, hy, Sem.run_bind, hr, Result.andThen_ok, Sem.run_pure, Oper.upon]
  exact h _ (heap_alloc_new w _) ((Below.refl _ _).alloc (Nat.le_refl _) _)
theorem wl_copyS {ops : Array Oper} {rest : List Oper} {dt : Option Tmp} {d s' : Operand} {ty : TypeId} {ps : String} {af : Array Edge} {a : Act} {w : World} {Q : Exit → Act → World → Prop}
    {g off dL dC n m : Nat} {t : TypeId} {s r : Nat → Int} (hd : a.eval d = .slice (some ⟨g, off, none⟩) dL dC) (hs : a.eval s' = .string (mkS m r)) (hg : ArrAt w g .u8 t n s) (hr : ∀ j, j < m → 0 ≤ r j ∧ r j < 256) (hm : m ≤ dL) (hfit : off + m ≤ n)
    (h : ∀ w', ArrAt w' g .u8 t n (over s off m r) → Only g w w' → wpList Tryz.prog ops Q rest (a.put dt (goInt m)) w') :
    wpList Tryz.prog ops Q ({ dst := dt, op := .call { callee := .builtin .copy, args := #[d, s'], argTypes := #[81, 9] }, type := ty, pos := ps, after := af, guard := none } :: rest) a w :=
  wl_act rfl (act_copyS rfl hd hs hg hr hm hfit h)
theorem conv_ib (n : Int) (w : World) : (convert 3 5 (.int .i64 n)).run Tryz.prog w = .ok (.int .u8 (n % 256)) w := by
  have e : IntKind.u8.wrap n = n % 256 := by rw [IntKind.wrap_u8]
  simp [go_sem, e]
theorem run_bsB (n : Int) (w : World) : (Instr.buildSlice 81 1 #[(0, .int .u8 n)]).run Tryz.prog w = .ok (.slice (some ⟨w.heap.size, 0, none⟩) 1 1) (w.alloc (.cells #[.int .u8 n] 5)) := by simp [go_sem]
end Go.Proofs.YthghcjepdhkfdaaGreatDoor

/-
  Own text. What Hash of the document's answer for blake gives: the walk.
-/
namespace Go.Proofs.YthghcjepdhkfdaaGreatDoor
open Go.RowKit Go.Proofs
set_option maxRecDepth 100000
end Go.Proofs.YthghcjepdhkfdaaGreatDoor

/-
  Own text. What Sum and Keyed of the document's answer for blake give.
-/
namespace Go.Proofs.YthghcjepdhkfdaaGreatDoor
open Go.RowKit Go.Proofs
set_option maxRecDepth 100000
/-- The hash of 32 bytes by no key. -/
def sumF (text : ByteArray) : Nat → Int := outF (stF text (h0F 32 0) (nbF text.size))
end Go.Proofs.YthghcjepdhkfdaaGreatDoor

/-
  Own text. What MAC of the document's answer for blake gives.
-/
namespace Go.Proofs.YthghcjepdhkfdaaGreatDoor
open Go.RowKit Go.Proofs
set_option maxRecDepth 100000
/-- A key, filled up with zeros, each byte xor c. -/
def padK (k : ByteArray) (c : Int) (i : Nat) : Int := xorw (txt k i) c
/-- The key that a mark goes by. -/
def keyM (key : ByteArray) : ByteArray := if 64 < key.size then mkS 32 (sumF key) else key
def macF (key text : ByteArray) : Nat → Int := sumF (mkS 64 (padK (keyM key) 92) ++ mkS 32 (sumF (mkS 64 (padK (keyM key) 54) ++ text)))
end Go.Proofs.YthghcjepdhkfdaaGreatDoor

/-
  Own text. What Chain of the document's answer for blake gives.
-/
namespace Go.Proofs.YthghcjepdhkfdaaGreatDoor
open Go.RowKit Go.Proofs
set_option maxRecDepth 100000
/-- The text that the next key of a chain is made of, and that key. -/
def lstT (z : Nat → Int) : Nat → ByteArray
  | 0 => ⟨#[]⟩
  | i + 1 => mkS 32 (macF (mkS 32 z) (lstT z i ++ mkS 1 fun _ => ((i + 1 : Nat) : Int) % 256))
def chK (z : Nat → Int) (i : Nat) : Nat → Int := macF (mkS 32 z) (lstT z i ++ mkS 1 fun _ => ((i + 1 : Nat) : Int) % 256)
theorem lstT_next (z : Nat → Int) (i : Nat) : lstT z (i + 1) = mkS 32 (chK z i) := rfl
theorem lstT_size (z : Nat → Int) (i : Nat) : (lstT z i).size ≤ 32 := by
  cases i with
  | zero => exact Nat.zero_le _
  | succ i => rw [lstT_next, mkS_size]; omega
/-- Arrays of 32 bytes, one behind the other. -/
def rowsL (f : Nat → Nat → Int) : Nat → List Value
  | 0 => []
  | n + 1 => rowsL f n ++ nums .u8 32 (f n)
theorem macF_b (key text : ByteArray) (j : Nat) : 0 ≤ macF key text j ∧ macF key text j < 256 := outF_b _ j
theorem infoRow : (Tryz.prog.info? 22).map (fun i => (i.zero, i.size, i.bytes)) = some (some (.agg (WA .u8 32 fun _ => 0)), 32, 32) := by kernel_rfl
theorem run_bsR (s : Nat → Int) (w : World) : (Instr.buildSlice 75 1 #[(0, .agg (WA .u8 32 s))]).run Tryz.prog w = .ok (.slice (some ⟨w.heap.size, 0, none⟩) 1 1) (w.alloc (.cells (WA .u8 32 s) 22)) := by kernel_rfl
theorem wl_bsR {ops : Array Oper} {rest : List Oper} {d : Option Tmp} {x : Operand} {ty : TypeId} {ps : String} {af : Array Edge} {a : Act} {w : World} {Q : Exit → Act → World → Prop} {s : Nat → Int} (hx : a.eval x = .agg (WA .u8 32 s))
    (h : ∀ w', ArrAt w' w.heap.size .u8 22 32 s → Below w.heap.size w w' → wpList Tryz.prog ops Q rest (a.put d (.slice (some ⟨w.heap.size, 0, none⟩) 1 1)) w') :
    wpList Tryz.prog ops Q ({ dst := d, op := .buildSlice 75 1 #[(0, x)], type := ty, pos := ps, after := af, guard := none } :: rest) a w := by
  have hr := run_bsR s w
  refine wl_act rfl ?_
  unfold Oper.wp execOp
  simp only [List.map_toArray, List.map_cons, List.map_nil, hx, Sem.run_bind, hr, Result.andThen_ok, Sem.run_pure, Oper.upon]
  exact h _ (heap_alloc_new w _) ((Below.refl _ _).alloc (Nat.le_refl _) _)
theorem act_bsB {o : Oper} {a : Act} {w : World} {K : Act → World → Prop} {Q : Exit → Act → World → Prop} {x : Operand} (ho : o.op = .buildSlice 81 1 #[(0, x)]) {n : Int} (hx : a.eval x = .int .u8 n)
    (h : ∀ v, v.heap[w.heap.size]? = some (.cells (WA .u8 1 fun _ => n) 5 (0, 0)) → Below w.heap.size w v → K (a.put o.dst (.slice (some ⟨w.heap.size, 0, none⟩) 1 1)) v) : o.wp Tryz.prog a w K Q := by
  have hr := run_bsB n w
  unfold Oper.wp execOp
  simp only [ho, List.map_toArray, List.map_cons, List.map_nil, hx, Sem.run_bind, hr, Result.andThen_ok, Sem.run_pure, Oper.upon]
  exact h _ (heap_alloc_new w _) ((Below.refl _ _).alloc (Nat.le_refl _) _)
/-- 'append(x, an array of 32 bytes)' to a row of one's own. -/
theorem ap_rows {ops : Array Oper} {rest : List Oper} {d : Option Tmp} {s x : Operand} {ty : TypeId} {ps : String} {af : Array Edge} {a : Act} {w : World} {Q : Exit → Act → World → Prop}
    {B k b : Nat} {xs : List Value} {v0 : Value} {f : Nat → Int} (hs : a.eval s = v0) (hx : a.eval x = .slice (some ⟨b, 0, none⟩) 1 1) (hD : w.ownsRow B 22 32 v0 k xs) (hg : ArrAt w b .u8 22 32 f) (hl : k < 4000000) (hB : B ≤ w.heap.size)
    (h : ∀ v' w', w'.ownsRow B 22 32 v' (k + 1) (xs ++ nums .u8 32 f) → Below B w w' → (∀ q, q < w.heap.size → some q ≠ v0.ownBlock → w'.heap[q]? = w.heap[q]?) → wpList Tryz.prog ops Q rest (a.put d v') w') :
    wpList Tryz.prog ops Q ({ dst := d, op := .call { callee := .builtin .append, args := #[s, x], argTypes := #[75, 75] }, type := ty, pos := ps, after := af, guard := none } :: rest) a w := by
  obtain ⟨i0, hi, hz0, hz1, hz2⟩ := info_parts infoRow
  refine wpList_append_own w rfl s x 75 rfl B 22 i0 (.agg (WA .u8 32 fun _ => 0)) 32 32 Tryz.underlying75 hi hz0 hz1 hz2 (by show (WA .u8 32 fun _ => 0).size = 32; rw [WA_size]) (by decide) _ k _ hs hD ⟨b, 0, none⟩ 1 1 (nums .u8 32 f) hx (by rw [nums_len]) ?_ nums_one ?_ ?_ hB ?_
  · intro j u hj
    obtain ⟨hj2, rfl⟩ := nums_get hj
    rw [Addr.add_lit, Nat.zero_add]
    exact hg.cell j hj2
  · unfold maxLen; omega
  · omega
  · intro v' w1 hown hgrow _
    exact h v' w1 hown (Below.grow hgrow hB (fun q hq => (hD.lt q hq).1)) (fun q hq hne => hgrow.block q hq hne)
theorem ownR_kept {w w' : World} {B : Nat} {e : TypeId} {v : Value} {n : Nat} {xs : List Value} (h : w.ownsRow B e 32 v n xs) (hb : Below w.heap.size w w') : w'.ownsRow B e 32 v n xs := by
  obtain ⟨h1, h2⟩ := h
  refine ⟨h1, ?_⟩
  rcases h2 with h2 | ⟨g, cap, cur, rfl, hb1, hg, hr⟩
  · exact .inl h2
  · refine .inr ⟨g, cap, cur, rfl, hb1, ?_, hr⟩
    rw [hb.block g (heap_lt hg)]
    exact hg
end Go.Proofs.YthghcjepdhkfdaaGreatDoor

/-
  Own text. Arrays of 32 bytes in a row.
-/
namespace Go.Proofs.YthghcjepdhkfdaaGreatDoor
open Go.RowKit Go.Proofs
set_option maxRecDepth 100000
theorem sizeR (w : World) : (sizeOf (Tryz.prog.elem 75)).run Tryz.prog w = .ok 32 w := by kernel_rfl
theorem exec_idx32 {a : Act} {o : Oper} {w : World} {x y : Operand} (ho : o.op = .indexAddr 75 x y) {b n c i : Nat} (hx : a.eval x = .slice (some ⟨b, 0, none⟩) n c) (hy : a.eval y = .int .i64 (i : Int)) (hi : i < n) : (execOp a.eval o).run Tryz.prog w = .ok (.value (.pointer (some ⟨b, i * 32, none⟩))) w := by
  unfold execOp
  simp only [ho, hx, hy, Sem.run_bind]
  rw [run_indexAt_slice w 75 _ n c .i64 (i : Int) Tryz.underlying75, if_pos ⟨by omega, by omega⟩, sizeR]
  simp [Addr.add_lit]
/-- Of n arrays of 32 bytes in a block those from i on. -/
structure RowsAt (w : World) (g n i : Nat) (f : Nat → Nat → Int) : Prop where
  ex : ∃ cur, w.heap[g]? = some (.cells cur 22 (0, 0)) ∧ n * 32 ≤ cur.size ∧ ∀ j, i ≤ j → j < n → ∀ q, q < 32 → cur[j * 32 + q]? = some (.int .u8 (f j q))
theorem RowsAt.range {w : World} {g n i j : Nat} {f : Nat → Nat → Int} (h : RowsAt w g n i f) (hi : i ≤ j) (hj : j < n) : w.rangeAt g (j * 32) (nums .u8 32 (f j)) := by
  obtain ⟨cur, h1, h2, h3⟩ := h.ex
  intro q v hq
  obtain ⟨hq2, rfl⟩ := nums_get hq
  rw [cell_of_row w g _ _ _ _ h1, h3 j hi hj q hq2]
theorem rowsL_at (f : Nat → Nat → Int) : ∀ n j, j < n → ∀ q, q < 32 → (rowsL f n)[j * 32 + q]? = some (.int .u8 (f j q))
  | 0, j, h, _, _ => by omega
  | n + 1, j, h, q, hq => by
    have hl : (rowsL f n).length = n * 32 := by
      have : ∀ m, (rowsL f m).length = m * 32 := fun m => by
        induction m with
        | zero => rfl
        | succ m ih => rw [rowsL, List.length_append, nums_len, ih]; omega
      exact this n
    rw [rowsL]
    by_cases e : j = n
    · subst e
      rw [List.getElem?_append_right (by omega), hl, Nat.add_sub_cancel_left, nums_at .u8 32 _ hq]
    · rw [List.getElem?_append_left (by omega)]
      exact rowsL_at f n j (by omega) q hq
theorem own_rows {w : World} {B n : Nat} {v : Value} {f : Nat → Nat → Int} (h : w.ownsRow B 22 32 v n (rowsL f n)) (hn : 0 < n) : ∃ g cap, v = .slice (some ⟨g, 0, none⟩) n cap ∧ B ≤ g ∧ RowsAt w g n 0 f := by
  rcases h.2 with ⟨_, h0⟩ | ⟨g, cap, cur, rfl, hb, hg, hc, _, hs, ht⟩
  · omega
  · refine ⟨g, cap, rfl, hb, cur, hg, by rw [hs]; exact Nat.mul_le_mul_right _ hc, fun j _ hj q hq => ?_⟩
    have h1 := rowsL_at f n j hj q hq
    rw [← ht, List.getElem?_take, if_pos (by omega)] at h1
    simpa using h1
end Go.Proofs.YthghcjepdhkfdaaGreatDoor

/-
  Own text. Digits to the base 256 as functions: their number; what the document's answer for poly does to them. No program is named here.
-/
namespace Go.Proofs.YthghcjepdhkfdaaGreatDoor
open Go.RowKit Go.Proofs
set_option maxRecDepth 100000
/-- The number of the first n digits, the lowest first. -/
def dval (s : Nat → Int) : Nat → Int
  | 0 => 0
  | n + 1 => dval s n + 256 ^ n * s n
theorem p256 (n : Nat) : (0 : Int) < 256 ^ n := Int.pow_pos (by decide)
theorem dval_congr {s t : Nat → Int} : ∀ {n : Nat}, (∀ i, i < n → s i = t i) → dval s n = dval t n
  | 0, _ => rfl
  | n + 1, h => by unfold dval; rw [dval_congr (fun i hi => h i (by omega)), h n (by omega)]
theorem dval_nonneg {s : Nat → Int} : ∀ {n : Nat}, (∀ i, i < n → 0 ≤ s i) → 0 ≤ dval s n
  | 0, _ => by simp [dval]
  | n + 1, h => by
    have h1 := dval_nonneg (n := n) (fun i hi => h i (by omega))
    have h2 := Int.mul_nonneg (Int.le_of_lt (p256 n)) (h n (by omega))
    unfold dval; omega
theorem dval_lt {s : Nat → Int} : ∀ {n : Nat}, (∀ i, i < n → 0 ≤ s i ∧ s i < 256) → dval s n < 256 ^ n
  | 0, _ => by simp [dval]
  | n + 1, h => by
    have h1 := dval_lt (n := n) (fun i hi => h i (by omega))
    have h2 := h n (by omega)
    have h3 : (256 : Int) ^ n * s n ≤ 256 ^ n * 255 := Int.mul_le_mul_of_nonneg_left (by omega) (Int.le_of_lt (p256 n))
    unfold dval
    rw [Int.pow_succ]
    omega
def P130 : Int := 1361129467683753853853498429727072845819
def W130 : Int := 1361129467683753853853498429727072845824
end Go.Proofs.YthghcjepdhkfdaaGreatDoor

/-
  Own text. What carried of the document's answer for poly gives.
-/
namespace Go.Proofs.YthghcjepdhkfdaaGreatDoor
open Go.RowKit Go.Proofs
set_option maxRecDepth 100000
end Go.Proofs.YthghcjepdhkfdaaGreatDoor

/-
  Own text. What rest of the document's answer for poly gives: the number by 2^130 - 5.
-/
namespace Go.Proofs.YthghcjepdhkfdaaGreatDoor
open Go.RowKit Go.Proofs
set_option maxRecDepth 100000
end Go.Proofs.YthghcjepdhkfdaaGreatDoor

/-
  Own text. The walk of rest of the document's answer for poly.
-/
namespace Go.Proofs.YthghcjepdhkfdaaGreatDoor
open Go.RowKit Go.Proofs
set_option maxRecDepth 100000
end Go.Proofs.YthghcjepdhkfdaaGreatDoor

/-
  Own text. Poly1305 by numbers: r, s, the blocks, the mark.
-/
namespace Go.Proofs.YthghcjepdhkfdaaGreatDoor
open Go.RowKit Go.Proofs
set_option maxRecDepth 100000
/-- Digit i of r. -/
def rdig (key : Nat → Int) (i : Nat) : Int := if i % 4 = 3 then key i % 16 else if 0 < i ∧ i % 4 = 0 then key i / 4 * 4 else key i
def rN (key : Nat → Int) : Int := dval (rdig key) 16
/-- Digit i of a number. -/
def digN (X : Int) (i : Nat) : Int := X / 256 ^ i % 256
theorem digN_b (X : Int) (i : Nat) : 0 ≤ digN X i ∧ digN X i < 256 := by unfold digN; omega
end Go.Proofs.YthghcjepdhkfdaaGreatDoor

/-
  Own text. Digits to the base 2^26 as functions: their number, carries, products by 2^130 - 5. No program is named here.
-/
namespace Go.Proofs.YthghcjepdhkfdaaGreatDoor
open Go.RowKit Go.Proofs
set_option maxRecDepth 100000
/-- The number of the first n digits to the base 2^26, the lowest first. -/
def qv (s : Nat → Int) : Nat → Int
  | 0 => 0
  | n + 1 => qv s n + 67108864 ^ n * s n
theorem qv_congr {s t : Nat → Int} : ∀ {n : Nat}, (∀ i, i < n → s i = t i) → qv s n = qv t n
  | 0, _ => rfl
  | n + 1, h => by unfold qv; rw [qv_congr (fun i hi => h i (by omega)), h n (by omega)]
theorem qv_upd {s : Nat → Int} {i : Nat} {v : Int} : ∀ {n : Nat}, i < n → qv (upd s i v) n = qv s n + 67108864 ^ i * (v - s i)
  | 0, h => by omega
  | n + 1, h => by
    unfold qv
    by_cases e : i = n
    · subst e
      rw [qv_congr (t := s) (fun j hj => by unfold upd; rw [if_neg (by omega)])]
      unfold upd
      rw [if_pos rfl, Int.mul_sub]
      omega
    · rw [qv_upd (by omega)]
      unfold upd
      rw [if_neg (fun h => e h.symm)]
      omega
theorem qv_add {s : Nat → Int} {i n : Nat} {v : Int} (h : i < n) : qv (upd s i (s i + v)) n = qv s n + 67108864 ^ i * v := by
  rw [qv_upd h, show s i + v - s i = v by omega]
theorem qv_shift (s : Nat → Int) (a : Nat) : ∀ (n : Nat), qv s (a + n) = qv s a + 67108864 ^ a * qv (fun j => s (a + j)) n
  | 0 => by simp [qv]
  | n + 1 => by
    show qv s (a + n) + 67108864 ^ (a + n) * s (a + n) = qv s a + 67108864 ^ a * (qv (fun j => s (a + j)) n + 67108864 ^ n * s (a + n))
    rw [qv_shift s a n, Int.mul_add, Int.pow_add, Int.mul_assoc]
    omega
/-- Five digits, written out. -/
theorem qv5 (s : Nat → Int) : qv s 5 = s 0 + 67108864 * s 1 + 4503599627370496 * s 2 + 302231454903657293676544 * s 3 + 20282409603651670423947251286016 * s 4 := by
  simp only [qv, Int.reducePow, Int.pow_zero, Int.one_mul]
  omega
/-- What is carried into digit i. -/
def cc (x : Nat → Int) : Nat → Int
  | 0 => 0
  | i + 1 => (x i + cc x i) / 67108864
def cd (x : Nat → Int) (i : Nat) : Int := (x i + cc x i) % 67108864
theorem cd_b (x : Nat → Int) (i : Nat) : 0 ≤ cd x i ∧ cd x i < 67108864 := by unfold cd; omega
theorem qv_cd (x : Nat → Int) : ∀ n, qv (cd x) n + 67108864 ^ n * cc x n = qv x n
  | 0 => by simp [qv, cc]
  | n + 1 => by
    have ih := qv_cd x n
    show qv (cd x) n + 67108864 ^ n * cd x n + 67108864 ^ (n + 1) * ((x n + cc x n) / 67108864) = qv x n + 67108864 ^ n * x n
    have e : cd x n + 67108864 * ((x n + cc x n) / 67108864) = x n + cc x n := by unfold cd; omega
    rw [Int.pow_succ, Int.mul_assoc]
    generalize (x n + cc x n) / 67108864 = q at *
    have e2 : (67108864 : Int) ^ n * (cd x n + 67108864 * q) = 67108864 ^ n * (x n + cc x n) := by rw [e]
    rw [Int.mul_add, Int.mul_add] at e2
    omega
theorem q5 : (67108864 : Int) ^ 5 = W130 := by decide
theorem cd_lt (x : Nat → Int) : 0 ≤ qv (cd x) 5 ∧ qv (cd x) 5 < W130 := by
  have h0 := cd_b x 0
  have h1 := cd_b x 1
  have h2 := cd_b x 2
  have h3 := cd_b x 3
  have h4 := cd_b x 4
  rw [qv5]
  unfold W130
  omega
theorem cd_num (x : Nat → Int) : qv (cd x) 5 = qv x 5 % W130 ∧ cc x 5 = qv x 5 / W130 := by
  have h := qv_cd x 5
  have hb := cd_lt x
  rw [q5] at h
  unfold W130 at *
  omega
/-- Sums of a block and what has come together. -/
structure Sm (x : Nat → Int) : Prop where
  a : ∀ i, i < 5 → 0 ≤ x i
  b : ∀ i, i < 5 → i ≠ 1 → x i < 67108864
  c : x 1 < 67141632
theorem Sm.lt {x : Nat → Int} (h : Sm x) : 0 ≤ qv x 5 ∧ qv x 5 < W130 + 4398046511104 := by
  have h0 := h.b 0 (by omega) (by omega)
  have h2 := h.b 2 (by omega) (by omega)
  have h3 := h.b 3 (by omega) (by omega)
  have h4 := h.b 4 (by omega) (by omega)
  have h1 := h.c
  have k0 := h.a 0 (by omega)
  have k1 := h.a 1 (by omega)
  have k2 := h.a 2 (by omega)
  have k3 := h.a 3 (by omega)
  have k4 := h.a 4 (by omega)
  rw [qv5]
  unfold W130
  omega
theorem ediv0 {a b : Int} (h0 : 0 ≤ a) (h1 : a < b) : a / b = 0 ∧ a % b = a := ⟨Int.ediv_eq_zero_of_lt h0 h1, Int.emod_eq_of_lt h0 h1⟩
theorem ediv1 {a b : Int} (h0 : b ≤ a) (h1 : a < b + b) : a / b = 1 ∧ a % b = a - b := by
  have hb : 0 < b := by omega
  have e : a = (a - b) + b * 1 := by omega
  have e2 := Int.add_mul_ediv_left (a - b) 1 (show b ≠ 0 by omega)
  have e3 := Int.add_mul_emod_self_left (a - b) b 1
  rw [← e] at e2 e3
  have h := ediv0 (a := a - b) (b := b) (by omega) (by omega)
  omega
theorem least_arith {X : Int} (h0 : 0 ≤ X) (h1 : X < W130 + 4398046511104) :
    ((X % W130 + 5 * (X / W130)) % W130 + 5 * (((X % W130 + 5 * (X / W130)) % W130 + 5) / W130)) % W130 = X % P130 := by
  have hW : W130 = P130 + 5 := by decide
  have hP : 4398046511104 + 1000 < P130 := by decide
  generalize W130 = W at *
  generalize P130 = P at *
  by_cases c : X < W
  · obtain ⟨a1, a2⟩ := ediv0 h0 c
    rw [a1, a2, show X + 5 * 0 = X by omega, a2]
    by_cases d : X + 5 < W
    · rw [(ediv0 (by omega) d).1, show X + 5 * 0 = X by omega, a2, (ediv0 h0 (show X < P by omega)).2]
    · rw [(ediv1 (a := X + 5) (b := W) (by omega) (by omega)).1, show X + 5 * 1 = X + 5 by omega, (ediv1 (a := X + 5) (b := W) (by omega) (by omega)).2, (ediv1 (a := X) (b := P) (by omega) (by omega)).2]
      omega
  · obtain ⟨a1, a2⟩ := ediv1 (a := X) (b := W) (by omega) (by omega)
    rw [a1, a2, (ediv0 (a := X - W + 5 * 1) (b := W) (by omega) (by omega)).2, (ediv0 (a := X - W + 5 * 1 + 5) (b := W) (by omega) (by omega)).1, (ediv0 (a := X - W + 5 * 1 + 5 * 0) (b := W) (by omega) (by omega)).2, (ediv1 (a := X) (b := P) (by omega) (by omega)).2]
    omega
/-- The least number that stands for the same. -/
theorem least_num {x x1 rc x3 : Nat → Int} (h : Sm x) (h1 : x1 = upd (cd x) 0 (cd x 0 + 5 * cc x 5)) (hr : rc = upd (cd x1) 0 (cd x1 0 + 5)) (h3 : x3 = upd (cd x1) 0 (cd x1 0 + 5 * cc rc 5)) : qv (cd x3) 5 = qv x 5 % P130 := by
  have hX := h.lt
  have e1 : qv x1 5 = qv (cd x) 5 + 5 * cc x 5 := by rw [h1, qv_add (by decide)]; simp
  have e2 : qv rc 5 = qv (cd x1) 5 + 5 := by rw [hr, qv_add (by decide)]; simp
  have e3 : qv x3 5 = qv (cd x1) 5 + 5 * cc rc 5 := by rw [h3, qv_add (by decide)]; simp
  have n0 := cd_num x
  have n1 := cd_num x1
  have n2 := cd_num rc
  have n3 := cd_num x3
  rw [n3.1, e3, n2.2, e2, n1.1, e1, n0.1, n0.2]
  exact least_arith hX.1 hX.2
end Go.Proofs.YthghcjepdhkfdaaGreatDoor

/-
  Own text. What carried of package poly answers: a contract over the translation.
-/
namespace Go.Proofs.YthghcjepdhkfdaaGreatDoor
open Go.RowKit Go.Proofs
set_option maxRecDepth 100000
theorem w64 {z : Int} (h0 : 0 ≤ z) (h1 : z < 18446744073709551616) : IntKind.u64.wrap z = z := by rw [IntKind.wrap_u64]; omega
end Go.Proofs.YthghcjepdhkfdaaGreatDoor

/-
  Own text. What times of package poly answers: a contract over the translation.
-/
namespace Go.Proofs.YthghcjepdhkfdaaGreatDoor
open Go.RowKit Go.Proofs
set_option maxRecDepth 100000
end Go.Proofs.YthghcjepdhkfdaaGreatDoor

/-
  Own text. What least of package poly answers: a contract over the translation.
-/
namespace Go.Proofs.YthghcjepdhkfdaaGreatDoor
open Go.RowKit Go.Proofs
set_option maxRecDepth 100000
end Go.Proofs.YthghcjepdhkfdaaGreatDoor

/-
  Own text. What word, putWord and limbsOf of package poly answer: contracts over the translation.
-/
namespace Go.Proofs.YthghcjepdhkfdaaGreatDoor
open Go.RowKit Go.Proofs
set_option maxRecDepth 100000
def Byte (x : Int) : Prop := 0 ≤ x ∧ x < 256
theorem or_shift (a b : Int) (k : Nat) (ha : 0 ≤ a) (hb : 0 ≤ b) (hk : a < 2 ^ k) (hs : a + b * 2 ^ k < 18446744073709551616) :
    bits BinOp.or IntKind.u64 a (b * 2 ^ k) = a + b * 2 ^ k := by
  obtain ⟨A, rfl⟩ := Int.eq_ofNat_of_zero_le ha
  obtain ⟨B, rfl⟩ := Int.eq_ofNat_of_zero_le hb
  have e : ((B : Int) * 2 ^ k) = ((B * 2 ^ k : Nat) : Int) := by rw [Int.natCast_mul, Int.natCast_pow]; rfl
  have hA : A < 2 ^ k := by exact_mod_cast hk
  rw [e] at hs ⊢
  rw [bits_or_u64_nat _ _ (by omega) (by omega), Nat.or_comm, Nat.mul_comm, ← Nat.two_pow_add_eq_or_of_lt hA B]
  omega
theorem wrap_u64_id (z : Int) (h0 : 0 ≤ z) (h1 : z < 18446744073709551616) : IntKind.u64.wrap z = z := w64 h0 h1
theorem word_num (x0 x1 x2 x3 x4 x5 x6 x7 : Int) (h0 : Byte x0) (h1 : Byte x1) (h2 : Byte x2) (h3 : Byte x3) (h4 : Byte x4) (h5 : Byte x5) (h6 : Byte x6) (h7 : Byte x7) :
    bits BinOp.or IntKind.u64
      (bits BinOp.or IntKind.u64
        (bits BinOp.or IntKind.u64
          (bits BinOp.or IntKind.u64
            (bits BinOp.or IntKind.u64
              (bits BinOp.or IntKind.u64
                (bits BinOp.or IntKind.u64 (IntKind.u64.wrap x0)
                  (IntKind.u64.wrap (IntKind.u64.wrap x1 * 256)))
                (IntKind.u64.wrap (IntKind.u64.wrap x2 * 65536)))
              (IntKind.u64.wrap (IntKind.u64.wrap x3 * 16777216)))
            (IntKind.u64.wrap (IntKind.u64.wrap x4 * 4294967296)))
          (IntKind.u64.wrap (IntKind.u64.wrap x5 * 1099511627776)))
        (IntKind.u64.wrap (IntKind.u64.wrap x6 * 281474976710656)))
      (IntKind.u64.wrap (IntKind.u64.wrap x7 * 72057594037927936)) =
    x0 + x1 * 256 + x2 * 65536 + x3 * 16777216 + x4 * 4294967296 + x5 * 1099511627776 + x6 * 281474976710656 + x7 * 72057594037927936 := by
  unfold Byte at *
  rw [wrap_u64_id x0 (by omega) (by omega), wrap_u64_id x1 (by omega) (by omega), wrap_u64_id x2 (by omega) (by omega), wrap_u64_id x3 (by omega) (by omega),
    wrap_u64_id x4 (by omega) (by omega), wrap_u64_id x5 (by omega) (by omega), wrap_u64_id x6 (by omega) (by omega), wrap_u64_id x7 (by omega) (by omega)]
  rw [wrap_u64_id (x1 * 256) (by omega) (by omega), wrap_u64_id (x2 * 65536) (by omega) (by omega), wrap_u64_id (x3 * 16777216) (by omega) (by omega),
    wrap_u64_id (x4 * 4294967296) (by omega) (by omega), wrap_u64_id (x5 * 1099511627776) (by omega) (by omega), wrap_u64_id (x6 * 281474976710656) (by omega) (by omega), wrap_u64_id (x7 * 72057594037927936) (by omega) (by omega)]
  rw [show bits BinOp.or IntKind.u64 x0 (x1 * 256) = x0 + x1 * 256 from or_shift _ _ 8 (by omega) (by omega) (by omega) (by omega)]
  rw [show bits BinOp.or IntKind.u64 (x0 + x1 * 256) (x2 * 65536) = x0 + x1 * 256 + x2 * 65536 from or_shift _ _ 16 (by omega) (by omega) (by omega) (by omega)]
  rw [show bits BinOp.or IntKind.u64 (x0 + x1 * 256 + x2 * 65536) (x3 * 16777216) = x0 + x1 * 256 + x2 * 65536 + x3 * 16777216 from or_shift _ _ 24 (by omega) (by omega) (by omega) (by omega)]
  rw [show bits BinOp.or IntKind.u64 (x0 + x1 * 256 + x2 * 65536 + x3 * 16777216) (x4 * 4294967296) = x0 + x1 * 256 + x2 * 65536 + x3 * 16777216 + x4 * 4294967296 from or_shift _ _ 32 (by omega) (by omega) (by omega) (by omega)]
  rw [show bits BinOp.or IntKind.u64 (x0 + x1 * 256 + x2 * 65536 + x3 * 16777216 + x4 * 4294967296) (x5 * 1099511627776) = x0 + x1 * 256 + x2 * 65536 + x3 * 16777216 + x4 * 4294967296 + x5 * 1099511627776 from or_shift _ _ 40 (by omega) (by omega) (by omega) (by omega)]
  rw [show bits BinOp.or IntKind.u64 (x0 + x1 * 256 + x2 * 65536 + x3 * 16777216 + x4 * 4294967296 + x5 * 1099511627776) (x6 * 281474976710656) = x0 + x1 * 256 + x2 * 65536 + x3 * 16777216 + x4 * 4294967296 + x5 * 1099511627776 + x6 * 281474976710656 from or_shift _ _ 48 (by omega) (by omega) (by omega) (by omega)]
  exact or_shift _ _ 56 (by omega) (by omega) (by omega) (by omega)
/-- Eight bytes, the lowest first, as a number. -/
def V8 (x0 x1 x2 x3 x4 x5 x6 x7 : Int) : Int := x0 + x1 * 256 + x2 * 65536 + x3 * 16777216 + x4 * 4294967296 + x5 * 1099511627776 + x6 * 281474976710656 + x7 * 72057594037927936
theorem ret_int {k : IntKind} {a b : Int} (h : a = b) : Ending.returned (.int k a) = .returned (.int k b) := by rw [h]
set_option maxHeartbeats 1000000 in
theorem word_any (b off cap : Nat) (x0 x1 x2 x3 x4 x5 x6 x7 : Int) (w : World) (h0 : Byte x0) (h1 : Byte x1) (h2 : Byte x2) (h3 : Byte x3) (h4 : Byte x4) (h5 : Byte x5) (h6 : Byte x6) (h7 : Byte x7)
    (c0 : w.cell? ⟨b, off, none⟩ = some (.int .u8 x0)) (c1 : w.cell? ⟨b, off + 1, none⟩ = some (.int .u8 x1))
    (c2 : w.cell? ⟨b, off + 2, none⟩ = some (.int .u8 x2)) (c3 : w.cell? ⟨b, off + 3, none⟩ = some (.int .u8 x3))
    (c4 : w.cell? ⟨b, off + 4, none⟩ = some (.int .u8 x4)) (c5 : w.cell? ⟨b, off + 5, none⟩ = some (.int .u8 x5))
    (c6 : w.cell? ⟨b, off + 6, none⟩ = some (.int .u8 x6)) (c7 : w.cell? ⟨b, off + 7, none⟩ = some (.int .u8 x7)) :
    Calls Tryz.prog 221 #[.slice (some ⟨b, off, none⟩) 8 cap] w fun e w' => e = .returned (.int .u64 (V8 x0 x1 x2 x3 x4 x5 x6 x7)) ∧ ∃ n, w' = w.drewN n := by
  go_enter Tryz.func221, Tryz.ntmps221
  go_wp2
  go_quiet (fail)
  go_wp2
  go_ret
  exact ⟨ret_int (word_num x0 x1 x2 x3 x4 x5 x6 x7 h0 h1 h2 h3 h4 h5 h6 h7), _, rfl⟩
/-- Five numbers as a row. -/
def pk5 (a0 a1 a2 a3 a4 : Int) : Nat → Int
  | 0 => a0
  | 1 => a1
  | 2 => a2
  | 3 => a3
  | 4 => a4
  | _ => 0
/-- The digits of low + high * 2^64 + top * 2^128. -/
def lofs (low high top : Int) : Nat → Int := pk5 (low % 67108864) (low / 67108864 % 67108864) (low / 4503599627370496 + high % 16384 * 4096) (high / 16384 % 67108864) (high / 1099511627776 + top * 16777216)
end Go.Proofs.YthghcjepdhkfdaaGreatDoor

/-
  Own text. What putWord and mark of package poly answer: contracts over the translation.
-/
namespace Go.Proofs.YthghcjepdhkfdaaGreatDoor
open Go.RowKit Go.Proofs
set_option maxRecDepth 100000
def U64 (x : Int) : Prop := 0 ≤ x ∧ x < 18446744073709551616
def Bit (c : Int) : Prop := c = 0 ∨ c = 1
/-- lo and hi are the low word and the carry of x + y + c. -/
def Sum3 (x y c lo hi : Int) : Prop := U64 lo ∧ Bit hi ∧ lo + 18446744073709551616 * hi = x + y + c
theorem add64_run (x y c : Int) (hx : U64 x) (hy : U64 y) (hc : Bit c) (w : World) :
    ∃ lo hi, Sum3 x y c lo hi ∧ (callFunc 196 #[.int .u64 x, .int .u64 y, .int .u64 c]).run Tryz.prog w =
      .ok (.value (.tuple #[.int .u64 lo, .int .u64 hi])) w := by
  unfold U64 at hx hy
  unfold Bit at hc
  refine ⟨(x + y + c) % 18446744073709551616, (x + y + c) / 18446744073709551616, ⟨⟨?_, ?_⟩, ?_, ?_⟩, ?_⟩
  · omega
  · omega
  · unfold Bit; omega
  · omega
  rw [run_callFunc_extern Tryz.func196 (by kernel_rfl) (by kernel_rfl) (by kernel_rfl) (e := add64Entry) (by kernel_rfl), run_add64 x y c (by omega) (by omega) (by omega) (by omega)]
  rfl
theorem add64_all {x y c : Int} (hx : U64 x) (hy : U64 y) (hc : Bit c) :
    ∃ lo hi, Sum3 x y c lo hi ∧ ∀ w, (callFunc 196 #[.int .u64 x, .int .u64 y, .int .u64 c]).run Tryz.prog w =
      .ok (.value (.tuple #[.int .u64 lo, .int .u64 hi])) w := by
  obtain ⟨lo, hi, hs, _⟩ := add64_run x y c hx hy hc default
  refine ⟨lo, hi, hs, fun w => ?_⟩
  obtain ⟨lo', hi', hs', e⟩ := add64_run x y c hx hy hc w
  have e1 : lo' = lo ∧ hi' = hi := by unfold Sum3 U64 Bit at hs hs'; omega
  rw [e, e1.1, e1.2]
end Go.Proofs.YthghcjepdhkfdaaGreatDoor

/-
  Own text. What numberOf of package poly answers: a contract over the translation.
-/
namespace Go.Proofs.YthghcjepdhkfdaaGreatDoor
open Go.RowKit Go.Proofs
set_option maxRecDepth 100000
end Go.Proofs.YthghcjepdhkfdaaGreatDoor

/-
  Own text. A MAC in memory: its cells; steps over them.
-/
namespace Go.Proofs.YthghcjepdhkfdaaGreatDoor
open Go.RowKit Go.Proofs
set_option maxRecDepth 100000
end Go.Proofs.YthghcjepdhkfdaaGreatDoor

/-
  Own text. What plus of package poly answers: a contract over the translation.
-/
namespace Go.Proofs.YthghcjepdhkfdaaGreatDoor
open Go.RowKit Go.Proofs
set_option maxRecDepth 100000
end Go.Proofs.YthghcjepdhkfdaaGreatDoor

/-
  Own text. What behind of package poly answers: a contract over the translation.
-/
namespace Go.Proofs.YthghcjepdhkfdaaGreatDoor
open Go.RowKit Go.Proofs
set_option maxRecDepth 100000
end Go.Proofs.YthghcjepdhkfdaaGreatDoor

/-
  Own text. The walk of Tag of the document's answer for poly, its first loop: the digits of r.
-/
namespace Go.Proofs.YthghcjepdhkfdaaGreatDoor
open Go.RowKit Go.Proofs
set_option maxRecDepth 100000
end Go.Proofs.YthghcjepdhkfdaaGreatDoor

/-
  Own text. The document's Tag of a text within the reach.
-/
namespace Go.Proofs.YthghcjepdhkfdaaGreatDoor
open Go.RowKit Go.Proofs Go.Lib
set_option maxRecDepth 100000
end Go.Proofs.YthghcjepdhkfdaaGreatDoor

/-
  Own text. What a MAC stands for: the blocks so far, and what is left of one.
-/
namespace Go.Proofs.YthghcjepdhkfdaaGreatDoor
open Go.RowKit Go.Proofs
set_option maxRecDepth 100000
end Go.Proofs.YthghcjepdhkfdaaGreatDoor

/-
  Own text. What add of package poly does to a MAC: a contract over the translation.
-/
namespace Go.Proofs.YthghcjepdhkfdaaGreatDoor
open Go.RowKit Go.Proofs
set_option maxRecDepth 100000
end Go.Proofs.YthghcjepdhkfdaaGreatDoor

/-
  Own text. What New of package poly answers: a contract over the translation.
-/
namespace Go.Proofs.YthghcjepdhkfdaaGreatDoor
open Go.RowKit Go.Proofs
set_option maxRecDepth 100000
def pk2 (a b : Int) : Nat → Int
  | 0 => a
  | 1 => b
  | _ => 0
/-- r and s of a key, as a MAC keeps them. -/
def rL (key : Nat → Int) : Nat → Int := lofs (dval (rdig key) 8) (dval (fun j => rdig key (8 + j)) 8) 0
def sL (key : Nat → Int) : Nat → Int := pk2 (dval (fun j => key (16 + j)) 8) (dval (fun j => key (24 + j)) 8)
end Go.Proofs.YthghcjepdhkfdaaGreatDoor

/-
  Own text. What Write of package poly does to a MAC: a contract over the translation.
-/
namespace Go.Proofs.YthghcjepdhkfdaaGreatDoor
open Go.RowKit Go.Proofs
set_option maxRecDepth 100000
end Go.Proofs.YthghcjepdhkfdaaGreatDoor

/-
  Own text. What Sum of package poly answers: a contract over the translation.
-/
namespace Go.Proofs.YthghcjepdhkfdaaGreatDoor
open Go.RowKit Go.Proofs
set_option maxRecDepth 100000
end Go.Proofs.YthghcjepdhkfdaaGreatDoor

/-
  Own text. What Tag of package poly answers; a slice of texts that is made anew; the statements' awake.
-/
namespace Go.Proofs.YthghcjepdhkfdaaGreatDoor
open Go.RowKit Go.Proofs
set_option maxRecDepth 100000
end Go.Proofs.YthghcjepdhkfdaaGreatDoor

/-
  Own text. The document's answer for aead: eight bytes of a number.
-/
namespace Go.Proofs.YthghcjepdhkfdaaGreatDoor
open Go.RowKit Go.Proofs
set_option maxRecDepth 100000
end Go.Proofs.YthghcjepdhkfdaaGreatDoor

/-
  Own text. The document's answer for aead: a text, and zeros up to a multiple of 16.
-/
namespace Go.Proofs.YthghcjepdhkfdaaGreatDoor
open Go.RowKit Go.Proofs
set_option maxRecDepth 100000
end Go.Proofs.YthghcjepdhkfdaaGreatDoor

/-
  Own text. What bits.RotateLeft32 and the quarter round of package chacha give; the fixed answer (awake).
-/
namespace Go.Proofs.YthghcjepdhkfdaaGreatDoor
open Go.RowKit Go.Proofs
set_option maxRecDepth 100000
end Go.Proofs.YthghcjepdhkfdaaGreatDoor

/-
  Own text. What goes into a quarter round comes again, line by line backwards: the walk of the law ChachaTurnsBack.
-/
namespace Go.Proofs.YthghcjepdhkfdaaGreatDoor
open Go.RowKit Go.Proofs
set_option maxRecDepth 100000
end Go.Proofs.YthghcjepdhkfdaaGreatDoor

/-
  Own text. Rows of numbers in memory (the first n cells of a block), and steps over them for regions that leave their order open.
-/
namespace Go.Proofs.YthghcjepdhkfdaaGreatDoor
open Go.RowKit Go.Proofs
set_option maxRecDepth 100000
end Go.Proofs.YthghcjepdhkfdaaGreatDoor

/-
  Own text. What turn of the document's answer gives.
-/
namespace Go.Proofs.YthghcjepdhkfdaaGreatDoor
open Go.RowKit Go.Proofs
set_option maxRecDepth 100000
end Go.Proofs.YthghcjepdhkfdaaGreatDoor

/-
  Own text. What the quarter round of the document's answer does: the words at four places of a row, behind a quarter round of them.
-/
namespace Go.Proofs.YthghcjepdhkfdaaGreatDoor
open Go.RowKit Go.Proofs
set_option maxRecDepth 100000
end Go.Proofs.YthghcjepdhkfdaaGreatDoor

/-
  Own text. The walk of the law ChachaQuarters.
-/
namespace Go.Proofs.YthghcjepdhkfdaaGreatDoor
open Go.RowKit Go.Proofs
set_option maxRecDepth 100000
end Go.Proofs.YthghcjepdhkfdaaGreatDoor

/-
  Own text. Words of bytes: what wordAt and putWord of package chacha give.
-/
namespace Go.Proofs.YthghcjepdhkfdaaGreatDoor
open Go.RowKit Go.Proofs
set_option maxRecDepth 100000
set_option maxHeartbeats 1000000 in
theorem putWord_walk (b n cp : Nat) (i : Nat) (v : Int) (v0 v1 v2 v3 : Value) (w : World) (c0 : w.cell? ⟨b, 4 * i, none⟩ = some v0) (c1 : w.cell? ⟨b, 4 * i + 1, none⟩ = some v1) (c2 : w.cell? ⟨b, 4 * i + 2, none⟩ = some v2) (c3 : w.cell? ⟨b, 4 * i + 3, none⟩ = some v3)
    (f0 : w.frozen? ⟨b, 4 * i, none⟩ = false) (f1 : w.frozen? ⟨b, 4 * i + 1, none⟩ = false) (f2 : w.frozen? ⟨b, 4 * i + 2, none⟩ = false) (f3 : w.frozen? ⟨b, 4 * i + 3, none⟩ = false) (hv : W32 v) (hi : 4 * i + 4 ≤ n) (hn : n ≤ cp) (hc : cp ≤ 1000000) :
    Calls Tryz.prog 202 #[.slice (some ⟨b, 0, none⟩) n cp, .int .i64 (i : Int), .int .u32 v] w fun e w' => e = .returned (.tuple #[]) ∧
      w' = (((w.setCell ⟨b, 4 * i, none⟩ (.int .u8 (v % 256))).setCell ⟨b, 4 * i + 1, none⟩ (.int .u8 (v / 256 % 256))).setCell ⟨b, 4 * i + 2, none⟩ (.int .u8 (v / 65536 % 256))).setCell ⟨b, 4 * i + 3, none⟩ (.int .u8 (v / 16777216 % 256)) := by
  have HE : Hid (v / 16777216 % 256 = v / 16777216) := Hid.mk (by unfold W32 at hv; omega)
  unfold W32 at hv
  go_enter Tryz.func202, Tryz.ntmps202
  go_wp2
  refine bodyPost_end (results_none rfl _ _ _) rfl ?_
  rw [HE.out]
  exact ⟨rfl, rfl⟩
end Go.Proofs.YthghcjepdhkfdaaGreatDoor

/-
  Own text. Arrays of numbers in memory; what keySquare of package chacha gives.
-/
namespace Go.Proofs.YthghcjepdhkfdaaGreatDoor
open Go.RowKit Go.Proofs
set_option maxRecDepth 100000
theorem isArr12 : IsArr 26 12 := ⟨_, _, Tryz.underlying26, by kernel_rfl⟩
end Go.Proofs.YthghcjepdhkfdaaGreatDoor

/-
  Own text. What word and bytes of the document's answer give.
-/
namespace Go.Proofs.YthghcjepdhkfdaaGreatDoor
open Go.RowKit Go.Proofs
set_option maxRecDepth 100000
/-- The four bytes of a word. -/
def b4 (v : Int) (i : Nat) : Int := if i = 0 then v % 256 else if i = 1 then v / 256 % 256 else if i = 2 then v / 65536 % 256 else v / 16777216 % 256
end Go.Proofs.YthghcjepdhkfdaaGreatDoor

/-
  Own text. What keySquare and streamSquare of package chacha give.
-/
namespace Go.Proofs.YthghcjepdhkfdaaGreatDoor
open Go.RowKit Go.Proofs
set_option maxRecDepth 100000
end Go.Proofs.YthghcjepdhkfdaaGreatDoor

/-
  Own text. Rows that grow by append; what square of the document's answer gives.
-/
namespace Go.Proofs.YthghcjepdhkfdaaGreatDoor
open Go.RowKit Go.Proofs
set_option maxRecDepth 100000
end Go.Proofs.YthghcjepdhkfdaaGreatDoor

/-
  Own text. What streamSquare, ahead and rounds of package chacha give.
-/
namespace Go.Proofs.YthghcjepdhkfdaaGreatDoor
open Go.RowKit Go.Proofs
set_option maxRecDepth 100000
end Go.Proofs.YthghcjepdhkfdaaGreatDoor

/-
  Own text. What rounds of package chacha gives: ten times the eight quarter rounds.
-/
namespace Go.Proofs.YthghcjepdhkfdaaGreatDoor
open Go.RowKit Go.Proofs
set_option maxRecDepth 100000
end Go.Proofs.YthghcjepdhkfdaaGreatDoor

/-
  Own text. What twenty of the document's answer gives.
-/
namespace Go.Proofs.YthghcjepdhkfdaaGreatDoor
open Go.RowKit Go.Proofs
set_option maxRecDepth 100000
end Go.Proofs.YthghcjepdhkfdaaGreatDoor

/-
  Own text. What block and Block of package chacha give.
-/
namespace Go.Proofs.YthghcjepdhkfdaaGreatDoor
open Go.RowKit Go.Proofs
set_option maxRecDepth 100000
end Go.Proofs.YthghcjepdhkfdaaGreatDoor

/-
  Own text. What Block and Derive of package chacha give.
-/
namespace Go.Proofs.YthghcjepdhkfdaaGreatDoor
open Go.RowKit Go.Proofs
set_option maxRecDepth 100000
end Go.Proofs.YthghcjepdhkfdaaGreatDoor

/-
  Own text. Copies into arrays; slices of arrays; steps for regions that leave their order open.
-/
namespace Go.Proofs.YthghcjepdhkfdaaGreatDoor
open Go.RowKit Go.Proofs
set_option maxRecDepth 100000
end Go.Proofs.YthghcjepdhkfdaaGreatDoor

/-
  Own text. What Block of the document's answer gives: the block of package chacha's square.
-/
namespace Go.Proofs.YthghcjepdhkfdaaGreatDoor
open Go.RowKit Go.Proofs
set_option maxRecDepth 100000
end Go.Proofs.YthghcjepdhkfdaaGreatDoor

/-
  Own text. What Derive of package chacha gives.
-/
namespace Go.Proofs.YthghcjepdhkfdaaGreatDoor
open Go.RowKit Go.Proofs
set_option maxRecDepth 100000
end Go.Proofs.YthghcjepdhkfdaaGreatDoor

/-
  Own text. What Derive of the document's answer gives: the same.
-/
namespace Go.Proofs.YthghcjepdhkfdaaGreatDoor
open Go.RowKit Go.Proofs
set_option maxRecDepth 100000
end Go.Proofs.YthghcjepdhkfdaaGreatDoor

/-
  Own text. The library's contracts for strings.Builder at this program (laid by the command of the guide, in plain words).
-/
namespace Go.Proofs.YthghcjepdhkfdaaGreatDoor
open Go.Proofs
set_option maxRecDepth 100000
open Go.Shelf
end Go.Proofs.YthghcjepdhkfdaaGreatDoor

/-
  Own text. What (*strings.Builder).Write does to a builder that a call has made itself; texts as numbers.
-/
namespace Go.Proofs.YthghcjepdhkfdaaGreatDoor
open Go.RowKit Go.Proofs
set_option maxRecDepth 100000
end Go.Proofs.YthghcjepdhkfdaaGreatDoor

/-
  Own text. What Stream of package chacha gives.
-/
namespace Go.Proofs.YthghcjepdhkfdaaGreatDoor
open Go.RowKit Go.Proofs
set_option maxRecDepth 100000
end Go.Proofs.YthghcjepdhkfdaaGreatDoor

/-
  Own text. What Stream of the document's answer gives: the same text.
-/
namespace Go.Proofs.YthghcjepdhkfdaaGreatDoor
open Go.RowKit Go.Proofs
set_option maxRecDepth 100000
end Go.Proofs.YthghcjepdhkfdaaGreatDoor

/-
  Own text. The document's answer for aead: the mark.
-/
namespace Go.Proofs.YthghcjepdhkfdaaGreatDoor
open Go.RowKit Go.Proofs
set_option maxRecDepth 100000
end Go.Proofs.YthghcjepdhkfdaaGreatDoor

/-
  Own text. What lowestFirst and filling of package aead answer.
-/
namespace Go.Proofs.YthghcjepdhkfdaaGreatDoor
open Go.RowKit Go.Proofs
set_option maxRecDepth 100000
end Go.Proofs.YthghcjepdhkfdaaGreatDoor

/-
  Own text. What keyOfMark of package aead answers; parts of arrays.
-/
namespace Go.Proofs.YthghcjepdhkfdaaGreatDoor
open Go.RowKit Go.Proofs
set_option maxRecDepth 100000
end Go.Proofs.YthghcjepdhkfdaaGreatDoor

/-
  Own text. Slices of texts that grow; steps over them.
-/
namespace Go.Proofs.YthghcjepdhkfdaaGreatDoor
open Go.RowKit Go.Proofs
set_option maxRecDepth 100000

end Go.Proofs.YthghcjepdhkfdaaGreatDoor

/-
  Own text. What markOf of package aead answers.
-/
namespace Go.Proofs.YthghcjepdhkfdaaGreatDoor
open Go.RowKit Go.Proofs
set_option maxRecDepth 100000
end Go.Proofs.YthghcjepdhkfdaaGreatDoor

/-
  Own text. The document's answer for aead: Seal.
-/
namespace Go.Proofs.YthghcjepdhkfdaaGreatDoor
open Go.RowKit Go.Proofs
set_option maxRecDepth 100000
end Go.Proofs.YthghcjepdhkfdaaGreatDoor

/-
  Own text. The document's answer for aead: Open.
-/
namespace Go.Proofs.YthghcjepdhkfdaaGreatDoor
open Go.RowKit Go.Proofs
set_option maxRecDepth 100000
end Go.Proofs.YthghcjepdhkfdaaGreatDoor

/-
  Own text. What Same of package aead answers.
-/
namespace Go.Proofs.YthghcjepdhkfdaaGreatDoor
open Go.RowKit Go.Proofs
set_option maxRecDepth 100000
end Go.Proofs.YthghcjepdhkfdaaGreatDoor

/-
  Own text. What Seal of package aead answers.
-/
namespace Go.Proofs.YthghcjepdhkfdaaGreatDoor
open Go.RowKit Go.Proofs
set_option maxRecDepth 100000
end Go.Proofs.YthghcjepdhkfdaaGreatDoor

/-
  Own text. What Open of package aead answers.
-/
namespace Go.Proofs.YthghcjepdhkfdaaGreatDoor
open Go.RowKit Go.Proofs
set_option maxRecDepth 100000
end Go.Proofs.YthghcjepdhkfdaaGreatDoor

/-
  Own text. What behindZeros and Nonce of package aead answer.
-/
namespace Go.Proofs.YthghcjepdhkfdaaGreatDoor
open Go.RowKit Go.Proofs
set_option maxRecDepth 100000
end Go.Proofs.YthghcjepdhkfdaaGreatDoor

/-
  Own text. What narrow of package aead answers; the document's narrow.
-/
namespace Go.Proofs.YthghcjepdhkfdaaGreatDoor
open Go.RowKit Go.Proofs
set_option maxRecDepth 100000
end Go.Proofs.YthghcjepdhkfdaaGreatDoor

/-
  Own text. The document's narrow.
-/
namespace Go.Proofs.YthghcjepdhkfdaaGreatDoor
open Go.RowKit Go.Proofs
set_option maxRecDepth 100000
end Go.Proofs.YthghcjepdhkfdaaGreatDoor

/-
  Own text. What SealWide and OpenWide answer, of package aead and of the document.
-/
namespace Go.Proofs.YthghcjepdhkfdaaGreatDoor
open Go.RowKit Go.Proofs
set_option maxRecDepth 100000
end Go.Proofs.YthghcjepdhkfdaaGreatDoor

/-
  Own text. The document's Nonce.
-/
namespace Go.Proofs.YthghcjepdhkfdaaGreatDoor
open Go.RowKit Go.Proofs
set_option maxRecDepth 100000
end Go.Proofs.YthghcjepdhkfdaaGreatDoor

/-
  Own text. The document's answer for noise: a handshake's state, and what is done to it.
-/
namespace Go.Proofs.YthghcjepdhkfdaaGreatDoor
open Go.RowKit Go.Proofs
set_option maxRecDepth 100000
section
variable {w w' : World} {b : Nat} {H C : Nat → Int}
end
theorem belT (b : Nat) {w w' : World} (h : Below w.heap.size w w') : Touch (fun x => x = b) w w' := ⟨h.os, h.tape, h.output, h.size, fun k hk _ => h.block k hk⟩
/-- The hash with a text mixed in. -/
def mixH (H : Nat → Int) (s : ByteArray) : Nat → Int := sumF (mkS 32 H ++ s)
theorem mixH_b (H : Nat → Int) (s : ByteArray) (n : Nat) : Byts n (mixH H s) := fun i _ => outF_b _ i
/-- The keys that a chain makes of a text. -/
def chn (C : Nat → Int) (s : ByteArray) : Nat → Nat → Int := chK (macF (mkS 32 C) s)
theorem chn_b (C : Nat → Int) (s : ByteArray) (i n : Nat) : Byts n (chn C s i) := fun j _ => macF_b _ _ j
end Go.Proofs.YthghcjepdhkfdaaGreatDoor

/-
  Own text. The document's answer for noise: sealing, opening, the beginning, numbers.
-/
namespace Go.Proofs.YthghcjepdhkfdaaGreatDoor
open Go.RowKit Go.Proofs
set_option maxRecDepth 100000
/-- The name that a handshake begins with, its chain, its hash. -/
def nameT : ByteArray := ⟨#[78, 111, 105, 115, 101, 95, 73, 75, 112, 115, 107, 50, 95, 50, 53, 53, 49, 57, 95, 67, 104, 97, 67, 104, 97, 80, 111, 108, 121, 95, 66, 76, 65, 75, 69, 50, 115]⟩
def begC : Nat → Int := sumF nameT
def begH (t : Nat → Int) : Nat → Int := mixH (mixH begC ⟨#[97, 100, 105, 116, 32, 49]⟩) (mkS 32 t)
theorem begC_b (n : Nat) : Byts n begC := fun i _ => outF_b _ i
end Go.Proofs.YthghcjepdhkfdaaGreatDoor

/-
  Own text. What Canon of package field answers, for every 32 bytes: a contract over the translation.
-/
namespace Go.Proofs.YthghcjepdhkfdaaGreatDoor.Fld
open Go.RowKit Go.Proofs
set_option maxRecDepth 100000
theorem limb_V4 {n : Int} (h0 : 0 ≤ n) (h1 : n < W256) : V4 (limb n 0) (limb n 8) (limb n 16) (limb n 24) = n := by
  unfold V4 limb W256 at *
  omega
set_option maxHeartbeats 1000000 in
theorem canon_any (n : Int) (w : World) (h0 : 0 ≤ n) (h1 : n < W256) :
    Calls Tryz.prog 100 #[.agg (BA n)] w fun e w' => e = .returned (.agg (BA (n % P255))) ∧ Below w.heap.size w w' := by
  go_enter Tryz.func100, Tryz.ntmps100
  go_wp2_with (refine ld_bytes rfl _ rfl _ _ rfl (heap_alloc2_old w _ _) (BA_size _) ?_)
  refine (load_any n _).mono ?_
  rintro e w1 ⟨rfl, hb1⟩
  have g1 := bheap hb1 (heap_alloc2_new w _ _) (by simp <;> omega)
  have hB1 : Hid (Below w.heap.size w w1) := by
    refine Below.trans ?_ (hb1.mono (by simp <;> omega))
    repeat first | exact Below.refl _ _ | refine Below.alloc ?_ (by simp <;> omega) _
  clear hb1
  go_wp2_with fail
  refine (store_any _ _ _ _ _ (limb_u64 _ _) (limb_u64 _ _) (limb_u64 _ _) (limb_u64 _ _)).mono ?_
  rintro e w2 ⟨rfl, hb2⟩
  have g2 := bheap hb2 g1 (heap_lt g1)
  have hB2 : Hid (Below w.heap.size w w2) := Below.trans hB1.out (hb2.mono hB1.out.size)
  clear hb2 g1
  go_wp2_with (refine st_bytes rfl _ _ rfl _ _ rfl rfl _ g2 rfl ?_; intro w3 g3 o3)
  refine bodyPost_ret (v := .agg (BA (n % P255))) ?_ rfl ⟨rfl, Below.trans hB2.out (Only.below (b := w.heap.size + 1) (B := w.heap.size) o3 (by omega))⟩
  rw [limb_V4 h0 h1] at g3
  exact results_cell_row rfl _ _ _ _ _ _ _ rfl g3 Tryz.underlying22 rfl (by rw [BA_size]; exact info32)
end Go.Proofs.YthghcjepdhkfdaaGreatDoor.Fld

/-
  Own text. What Of of package field answers, for every whole number of 64 bits: a contract over the translation.
-/
namespace Go.Proofs.YthghcjepdhkfdaaGreatDoor.Fld
open Go.RowKit Go.Proofs
set_option maxRecDepth 100000
theorem neg_wrap (n : Int) (h0 : -9223372036854775808 ≤ n) (h1 : n < 0) : IntKind.u64.wrap (-IntKind.u64.wrap n) = -n := by
  rw [IntKind.wrap_u64, IntKind.wrap_u64]; omega
theorem pos_wrap (n : Int) (h0 : 0 ≤ n) (h1 : n < 9223372036854775808) : IntKind.u64.wrap n = n := by
  rw [IntKind.wrap_u64]; omega
theorem V4_one (n : Int) : V4 n 0 0 0 = n := by unfold V4; omega
theorem neg_mod {n z : Int} (h : z = P255 - (-n)) : z % P255 = n % P255 := by
  rw [h, show P255 - (-n) = n + P255 by omega, Int.add_emod_right]
set_option maxHeartbeats 1000000 in
theorem of_any (n : Int) (w : World) (hP : PrimeAt w) (h0 : -9223372036854775808 ≤ n) (h1 : n < 9223372036854775808) :
    Calls Tryz.prog 58 #[.int .i64 n] w fun e w' => e = .returned (.agg (BA (n % P255))) ∧ Below w.heap.size w w' := by
  have hp0 := primeAt_pos hP
  have HP := Hid.mk hP
  clear hP
  by_cases hn : n < 0
  · have hw := neg_wrap n h0 hn
    go_enter Tryz.func58, Tryz.ntmps58
    go_wp2_with fail
    refine (opposite_any _ _ _ _ _ (primeAt_below HP.out ((Below.refl _ _).alloc (Nat.le_refl _) _) hp0) (by unfold U64; omega) u64_0 u64_0 u64_0 (by rw [V4_one]; unfold P255; omega)).mono ?_
    rintro e w1 ⟨z0, z1, z2, z3, hz0, hz1, hz2, hz3, ez, rfl, hb1⟩
    have g1 := bheap hb1 (heap_alloc_new w _) (by simp <;> omega)
    have hB1 : Hid (Below w.heap.size w w1) := Below.trans ((Below.refl _ _).alloc (Nat.le_refl _) _) (hb1.mono (by simp <;> omega))
    have EZ := Hid.mk ez
    clear hb1 ez
    go_wp2_with fail
    refine (store_any _ _ _ _ _ hz0 hz1 hz2 hz3).mono ?_
    rintro e w2 ⟨rfl, hb2⟩
    have g2 := bheap hb2 g1 (heap_lt g1)
    have hB2 : Hid (Below w.heap.size w w2) := Below.trans hB1.out (hb2.mono hB1.out.size)
    clear hb2 g1
    go_wp2_with (refine st_bytes rfl _ _ rfl _ _ rfl rfl _ g2 rfl ?_; intro w3 g3 o3)
    refine bodyPost_ret (v := .agg (BA (n % P255))) ?_ rfl ⟨rfl, Below.trans hB2.out (Only.below (b := w.heap.size) (B := w.heap.size) o3 (by omega))⟩
    have ez := EZ.out
    rw [V4_one] at ez
    rw [neg_mod ez] at g3
    exact results_cell_row rfl _ _ _ _ _ _ _ rfl g3 Tryz.underlying22 rfl (by rw [BA_size]; exact info32)
  · have hw := pos_wrap n (by omega) h1
    go_enter Tryz.func58, Tryz.ntmps58
    go_wp2_with fail
    refine (store_any _ _ _ _ _ (by unfold U64; omega) u64_0 u64_0 u64_0).mono ?_
    rintro e w2 ⟨rfl, hb2⟩
    have g2 := bheap hb2 (heap_alloc_new w _) (by simp <;> omega)
    have hB2 : Hid (Below w.heap.size w w2) := Below.trans ((Below.refl _ _).alloc (Nat.le_refl _) _) (hb2.mono (by simp <;> omega))
    clear hb2
    go_wp2_with (refine st_bytes rfl _ _ rfl _ _ rfl rfl _ g2 rfl ?_; intro w3 g3 o3)
    refine bodyPost_ret (v := .agg (BA (n % P255))) ?_ rfl ⟨rfl, Below.trans hB2.out (Only.below (b := w.heap.size) (B := w.heap.size) o3 (by omega))⟩
    rw [V4_one] at g3
    exact results_cell_row rfl _ _ _ _ _ _ _ rfl g3 Tryz.underlying22 rfl (by rw [BA_size]; exact info32)
end Go.Proofs.YthghcjepdhkfdaaGreatDoor.Fld

/-
  Own text. A region that leaves its order open, walked once: what only looks (under a condition S on the world) is taken first; what acts comes up alone; an act that T marks keeps S. No program is named here.
-/
namespace Go.Proofs.YthghcjepdhkfdaaGreatDoor.Fld
open Go
section
variable {P : Program} {ops : Array Oper} {Q : Exit → Act → World → Prop} {md : Region.Mode} {S : World → Prop} {T : Nat → Bool}
/-- Whatever order is picked from here on; operation i keeps S if T says so. -/
def wpAnyT (P : Program) (md : Region.Mode) (ops : Array Oper) (Q : Exit → Act → World → Prop) (S : World → Prop) (T : Nat → Bool) : Nat → Array Bool → Act → World → Prop
  | 0, listed, a, w => Region.ready md ops listed = [] ∧ Q .normal a w
  | fuel + 1, listed, a, w =>
    (Region.ready md ops listed = [] → Q .normal a w) ∧
    ∀ i ∈ Region.ready md ops listed, wpOp P ops Q i (fun a' w' => (T i = true → S w → S w') ∧ wpAnyT P md ops Q S T fuel (listed.setIfInBounds i true) a' w') a w
theorem wpAny_of_T : ∀ (fuel : Nat) (listed : Array Bool) (a : Act) (w : World), wpAnyT P md ops Q S T fuel listed a w → wpAny P md ops Q fuel listed a w
  | 0, _, _, _, h => h
  | fuel + 1, _, _, _, h => ⟨h.1, fun i hi => wpOp_mono (fun a' w' h' => wpAny_of_T fuel _ a' w' h'.2) (h.2 i hi)⟩
def waits (md : Region.Mode) (oj : Oper) (i : Nat) : Bool := oj.after.any fun e => Region.binds md e && e.on == i
theorem waits_spec {oj : Oper} {i : Nat} (h : waits md oj i = true) : ∃ e ∈ oj.after, Region.binds md e = true ∧ e.on = i := by
  obtain ⟨e, he, hb⟩ := Array.any_eq_true'.1 h
  simp only [Bool.and_eq_true, beq_iff_eq] at hb
  exact ⟨e, he, hb.1, hb.2⟩
theorem wpAnyT_first {i : Nat} {oi : Oper} {v : Value} (hi : ops[i]? = some oi) (hsel : ∀ (j : Nat) (o : Oper) cs b, ops[j]? = some o → o.op ≠ .select cs b)
    (hQ : ∀ c a w, Q (.panic c) (a.put oi.dst v) w → Q (.panic c) a w) :
    ∀ (fuel : Nat) (listed : Array Bool) (a : Act) (w : World),
      (∀ j oj, ops[j]? = some oj → j ≠ i → listed.getD j true = false → (∀ e ∈ oj.after, Region.binds md e = true → e.on ≠ i) → oi.apart ops oj = true) →
      (∀ j oj, ops[j]? = some oj → j ≠ i → listed.getD j true = false → T j = false → ∃ e ∈ oj.after, Region.binds md e = true ∧ e.on = i) →
      i ∈ Region.ready md ops listed → YieldsIf P ops S oi v a → S w →
      wpAnyT P md ops Q S T fuel (listed.setIfInBounds i true) (a.put oi.dst v) w → wpAnyT P md ops Q S T (fuel + 1) listed a w := by
  intro fuel
  induction fuel with
  | zero =>
    intro listed a w _ _ hr hy hS H
    refine ⟨fun h => (by rw [h] at hr; cases hr), fun j hj => ?_⟩
    by_cases hji : j = i
    · subst hji; exact hy.wpOp hi hS ⟨fun _ h => h, H⟩
    · have := ready_mono hj hji
      rw [H.1] at this
      cases this
  | succ fuel ih =>
    intro listed a w hfree hT hr hy hS H
    refine ⟨fun h => (by rw [h] at hr; cases hr), fun j hj => ?_⟩
    by_cases hji : j = i
    · subst hji; exact hy.wpOp hi hS ⟨fun _ h => h, H⟩
    · have h1 := H.2 j (ready_mono hj hji)
      obtain ⟨hjun, oj, hoj, hall⟩ := mem_ready.1 hj
      have hnot : ∀ e ∈ oj.after, Region.binds md e = true → e.on ≠ i := fun e he hb heq => by
        have h1 := hall e he hb
        have h0 := (mem_ready.1 hr).1
        rw [heq] at h1
        rcases Nat.lt_or_ge i listed.size with h' | h'
        · simp [h'] at h0 h1; rw [h0] at h1; cases h1
        · simp [Array.getElem?_eq_none h'] at h1
      have hTj : T j = true := by
        cases hq : T j with
        | true => rfl
        | false => obtain ⟨e, he, hb, ho⟩ := hT j oj hoj hji hjun hq; exact absurd ho (hnot e he hb)
      have h2 := wpOp_putIf hoj (hfree j oj hoj hji hjun hnot) (fun cs b => hsel i oi cs b hi) (fun cs b => hsel j oj cs b hoj) hQ hy h1
      have hun : ∀ k, (listed.setIfInBounds j true).getD k true = false → listed.getD k true = false := fun k hk => by
        by_cases hjk : j = k
        · subst hjk; exact hjun
        · rw [getD_set_ne true hjk] at hk; exact hk
      refine wpOp_mono (fun a' w' h3 => ⟨h3.2.1, ih (listed.setIfInBounds j true) a' w' (fun k ok hk hki hu hno => hfree k ok hk hki (hun k hu) hno)
        (fun k ok hk hki hu ht => hT k ok hk hki (hun k hu) ht) (ready_mono hr (Ne.symm hji)) h3.1 (h3.2.1 hTj hS) ?_⟩) h2
      rw [Array.setIfInBounds_comm _ _ hji]
      exact h3.2.2
theorem wpAnyT_firstW {i : Nat} {oi : Oper} {v : Value} (hi : ops[i]? = some oi) (hsel : ∀ (j : Nat) (o : Oper) cs b, ops[j]? = some o → o.op ≠ .select cs b)
    (hQ : ∀ c a w, Q (.panic c) (a.put oi.dst v) w → Q (.panic c) a w) :
    ∀ (fuel : Nat) (listed : Array Bool) (a : Act) (w : World),
      (∀ j oj, ops[j]? = some oj → j ≠ i → listed.getD j true = false → (∀ e ∈ oj.after, Region.binds md e = true → e.on ≠ i) → oi.apart ops oj = true) →
      i ∈ Region.ready md ops listed → YieldsIf P ops (fun _ => True) oi v a →
      wpAnyT P md ops Q S T fuel (listed.setIfInBounds i true) (a.put oi.dst v) w → wpAnyT P md ops Q S T (fuel + 1) listed a w := by
  intro fuel
  induction fuel with
  | zero =>
    intro listed a w _ hr hy H
    refine ⟨fun h => (by rw [h] at hr; cases hr), fun j hj => ?_⟩
    by_cases hji : j = i
    · subst hji; exact hy.wpOp hi trivial ⟨fun _ h => h, H⟩
    · have := ready_mono hj hji
      rw [H.1] at this
      cases this
  | succ fuel ih =>
    intro listed a w hfree hr hy H
    refine ⟨fun h => (by rw [h] at hr; cases hr), fun j hj => ?_⟩
    by_cases hji : j = i
    · subst hji; exact hy.wpOp hi trivial ⟨fun _ h => h, H⟩
    · have h1 := H.2 j (ready_mono hj hji)
      obtain ⟨hjun, oj, hoj, hall⟩ := mem_ready.1 hj
      have hnot : ∀ e ∈ oj.after, Region.binds md e = true → e.on ≠ i := fun e he hb heq => by
        have h1 := hall e he hb
        have h0 := (mem_ready.1 hr).1
        rw [heq] at h1
        rcases Nat.lt_or_ge i listed.size with h' | h'
        · simp [h'] at h0 h1; rw [h0] at h1; cases h1
        · simp [Array.getElem?_eq_none h'] at h1
      have h2 := wpOp_putIf hoj (hfree j oj hoj hji hjun hnot) (fun cs b => hsel i oi cs b hi) (fun cs b => hsel j oj cs b hoj) hQ hy h1
      have hun : ∀ k, (listed.setIfInBounds j true).getD k true = false → listed.getD k true = false := fun k hk => by
        by_cases hjk : j = k
        · subst hjk; exact hjun
        · rw [getD_set_ne true hjk] at hk; exact hk
      refine wpOp_mono (fun a' w' h3 => ⟨h3.2.1, ih (listed.setIfInBounds j true) a' w' (fun k ok hk hki hu hno => hfree k ok hk hki (hun k hu) hno)
        (ready_mono hr (Ne.symm hji)) h3.1 ?_⟩) h2
      rw [Array.setIfInBounds_comm _ _ hji]
      exact h3.2.2
/-- Is the list of numbers a walk? F: 0: it acts, and comes up alone; 1: it looks at the world under S: it may be taken first, and whatever does not keep S waits for it; else: it looks at no world. -/
def mixB (md : Region.Mode) (ops : Array Oper) (F : Nat → Nat) (T : Nat → Bool) : List Nat → Array Bool → Bool
  | [], listed => (Region.ready md ops listed).isEmpty
  | i :: l, listed =>
    (match F i with
      | 0 => Region.ready md ops listed == [i]
      | 1 => (Region.ready md ops listed).contains i && Region.free md ops listed i &&
        (List.range ops.size).all (fun j => j == i || listed.getD j true || T j || match ops[j]? with | some oj => waits md oj i | none => true)
      | _ => (Region.ready md ops listed).contains i && Region.free md ops listed i) && mixB md ops F T l (listed.setIfInBounds i true)
/-- The walk in that order. -/
def wpMix (P : Program) (ops : Array Oper) (Q : Exit → Act → World → Prop) (S : World → Prop) (F : Nat → Nat) (T : Nat → Bool) : List Nat → Act → World → Prop
  | [], a, w => Q .normal a w
  | i :: l, a, w => match F i with
    | 0 => wpOp P ops Q i (fun a' w' => (T i = true → S w → S w') ∧ wpMix P ops Q S F T l a' w') a w
    | 1 => ∃ o v, ops[i]? = some o ∧ YieldsIf P ops S o v a ∧ S w ∧ wpMix P ops Q S F T l (a.put o.dst v) w
    | _ => ∃ o v, ops[i]? = some o ∧ YieldsIf P ops (fun _ => True) o v a ∧ wpMix P ops Q S F T l (a.put o.dst v) w
theorem wpAnyT_mix {F : Nat → Nat} (hs : Region.noSelect ops = true) (hQ : ∀ c a d v w, Q (.panic c) (a.put d v) w → Q (.panic c) a w) :
    ∀ (l : List Nat) (listed : Array Bool) (a : Act) (w : World), mixB md ops F T l listed = true → wpMix P ops Q S F T l a w → wpAnyT P md ops Q S T l.length listed a w
  | [], listed, a, w, hB, h => ⟨by simpa [mixB] using hB, h⟩
  | i :: l, listed, a, w, hB, h => by
    simp only [mixB, Bool.and_eq_true] at hB
    obtain ⟨hB1, hB2⟩ := hB
    simp only [wpMix] at h
    match hF : F i with
    | 0 =>
      simp only [hF, beq_iff_eq] at hB1 h
      refine ⟨fun h0 => (by rw [hB1] at h0; cases h0), fun j hj => ?_⟩
      rw [hB1] at hj
      obtain rfl : j = i := by simpa using hj
      exact wpOp_mono (fun a' w' h' => ⟨h'.1, wpAnyT_mix hs hQ l _ _ _ hB2 h'.2⟩) h
    | 1 =>
      simp only [hF, Bool.and_eq_true] at hB1 h
      obtain ⟨⟨hr, hf⟩, hw⟩ := hB1
      obtain ⟨o, v, ho, hy, hS, hrest⟩ := h
      refine wpAnyT_first ho (Region.noSelect_spec hs) (fun c a w => hQ c a _ _ w) _ listed a w (Region.free_spec ho hf) (fun j oj hj hji hun ht => ?_) (by simpa using hr) hy hS (wpAnyT_mix hs hQ l _ _ _ hB2 hrest)
      have hjlt : j < ops.size := (Array.getElem?_eq_some_iff.1 hj).1
      have h1 := List.all_eq_true.1 hw j (List.mem_range.2 hjlt)
      simp only [hun, ht, hj, Bool.or_false, Bool.or_eq_true, beq_iff_eq] at h1
      rcases h1 with h1 | h1
      · exact absurd h1 hji
      · exact waits_spec h1
    | n + 2 =>
      simp only [hF, Bool.and_eq_true] at hB1 h
      obtain ⟨hr, hf⟩ := hB1
      obtain ⟨o, v, ho, hy, hrest⟩ := h
      exact wpAnyT_firstW ho (Region.noSelect_spec hs) (fun c a w => hQ c a _ _ w) _ listed a w (Region.free_spec ho hf) (by simpa using hr) hy (wpAnyT_mix hs hQ l _ _ _ hB2 hrest)
/-- THE BEGINNING. -/
theorem wp_region_mix {id : Nat} {a : Act} {w : World} (S : World → Prop) (F : Nat → Nat) (T : Nat → Bool) (l : List Nat) (hm : P.follows .mixedOrders = true)
    (hB : (Region.noSelect ops && l.length == ops.size && mixB .any ops F T l (Array.replicate ops.size false)) = true)
    (hQ : ∀ c a d v w, Q (.panic c) (a.put d v) w → Q (.panic c) a w)
    (h : wpMix P ops Q S F T l a w.drew) : (Code.region id ops true).wp P Q a w := by
  simp only [Bool.and_eq_true, beq_iff_eq] at hB
  obtain ⟨⟨hs, hl⟩, hB⟩ := hB
  refine wp_region_any hm (wpAny_of_T (S := S) (T := T) _ _ _ _ ?_)
  have := wpAnyT_mix (S := S) hs hQ l _ a _ hB h
  rw [hl] at this
  exact this
/-- The same, S shown at once and handed on. -/
theorem wp_region_mixS {id : Nat} {a : Act} {w : World} (S : World → Prop) (F : Nat → Nat) (T : Nat → Bool) (l : List Nat) (hm : P.follows .mixedOrders = true)
    (hB : (Region.noSelect ops && l.length == ops.size && mixB .any ops F T l (Array.replicate ops.size false)) = true)
    (hQ : ∀ c a d v w, Q (.panic c) (a.put d v) w → Q (.panic c) a w) (hS : S w.drew)
    (h : S w.drew → wpMix P ops Q S F T l a w.drew) : (Code.region id ops true).wp P Q a w := wp_region_mix S F T l hm hB hQ (h hS)
theorem at_drop {i : Nat} {o : Oper} {rest : List Oper} (ho : ops.toList.drop i = o :: rest) : ops[i]? = some o := by
  rw [← Array.getElem?_toList]
  have h := congrArg (fun l => l[0]?) ho
  simpa [List.getElem?_drop] using h
/-- What looks under S. -/
theorem mix_look {F : Nat → Nat} {i : Nat} {l : List Nat} {o : Oper} {v : Value} {a : Act} {w : World} (hF : F i = 1) {rest : List Oper} (ho : ops.toList.drop i = o :: rest) (hw : Region.wanted o (yielded ops a.tmps) = true) (hS : S w)
    (hy : ∀ w, S w → (execOp a.eval o).run P w = .ok (.value v) w) (h : wpMix P ops Q S F T l (a.put o.dst v) w) : wpMix P ops Q S F T (i :: l) a w := by
  simp only [wpMix, hF]
  exact ⟨o, v, at_drop ho, .inl ⟨hw, hy⟩, hS, h⟩
/-- What looks at no world. -/
theorem mix_pure {F : Nat → Nat} {i : Nat} {l : List Nat} {o : Oper} {v : Value} {a : Act} {w : World} (hF : F i = 2) {rest : List Oper} (ho : ops.toList.drop i = o :: rest) (hw : Region.wanted o (yielded ops a.tmps) = true)
    (hy : ∀ w, (execOp a.eval o).run P w = .ok (.value v) w) (h : wpMix P ops Q S F T l (a.put o.dst v) w) : wpMix P ops Q S F T (i :: l) a w := by
  simp only [wpMix, hF]
  exact ⟨o, v, at_drop ho, .inl ⟨hw, fun w _ => hy w⟩, h⟩
/-- What acts. -/
theorem mix_act {F : Nat → Nat} {i : Nat} {l : List Nat} {o : Oper} {a : Act} {w : World} (hF : F i = 0) {rest : List Oper} (ho : ops.toList.drop i = o :: rest) (hw : Region.wanted o (yielded ops a.tmps) = true)
    (h : ∀ K : Act → World → Prop, (∀ a w', (T i = true → S w → S w') → wpMix P ops Q S F T l a w' → K a w') → o.wp P a w K Q) : wpMix P ops Q S F T (i :: l) a w := by
  simp only [wpMix, hF, wpOp, at_drop ho, hw, if_true]
  exact .inl (h _ (fun a w h1 h2 => ⟨h1, h2⟩))
theorem mix_done {F : Nat → Nat} {a : Act} {w : World} (h : Q .normal a w) : wpMix P ops Q S F T [] a w := h
end
end Go.Proofs.YthghcjepdhkfdaaGreatDoor.Fld

/-
  Own text. What Sub of package field answers, for every two times 32 bytes: a contract over the translation; whole rows in a region that leaves its order open.
-/
namespace Go.Proofs.YthghcjepdhkfdaaGreatDoor.Fld
open Go.RowKit Go.Proofs
set_option maxRecDepth 100000
/-- A whole row of 32 bytes, looked at. -/
theorem look_bytes {a : Act} {o : Oper} {x : Operand} {w : World} (ho : o.op = .load 22 x) (g : Nat) (cs : Array Value) (hx : a.eval x = .pointer (some ⟨g, 0, none⟩)) (hs : cs.size = 32)
    (hg : w.heap[g]? = some (.cells cs 22 (0, 0))) : (execOp a.eval o).run Tryz.prog w = .ok (.value (.agg cs)) w := by
  unfold execOp
  simp only [ho, hx, Instr.loadAt, Instr.sureAddr, Sem.run_bind, Sem.run_pure, Result.andThen_ok, run_loadVar_row w g 22 22 cs (0, 0) _ hg Tryz.underlying22 rfl (by rw [hs]; exact info32)]
theorem look_limbs {a : Act} {o : Oper} {x : Operand} {w : World} (ho : o.op = .load 142 x) (g : Nat) (v0 v1 v2 v3 : Value) (hx : a.eval x = .pointer (some ⟨g, 0, none⟩))
    (hg : w.heap[g]? = some (.cells #[v0, v1, v2, v3] 142 (0, 0))) : (execOp a.eval o).run Tryz.prog w = .ok (.value (.agg #[v0, v1, v2, v3])) w := by
  unfold execOp
  simp only [ho, hx, Instr.loadAt, Instr.sureAddr, Sem.run_bind, Sem.run_pure, Result.andThen_ok, run_loadVar_row w g 142 142 _ (0, 0) _ hg Tryz.underlying142 rfl (by kernel_rfl)]
/-- A store of a whole row, as an act. -/
theorem act_bytes {a : Act} {o : Oper} {w : World} {K : Act → World → Prop} {Q : Exit → Act → World → Prop} (x y : Operand) (ho : o.op = .store 22 x y)
    (g : Nat) (n : Int) (hx : a.eval x = .pointer (some ⟨g, 0, none⟩)) (hy : a.eval y = .agg (BA n)) (old : Array Value) (hg : w.heap[g]? = some (.cells old 22 (0, 0))) (hold : old.size = 32)
    (h : ∀ w2, w2.heap[g]? = some (.cells (BA n) 22 (0, 0)) → Only g w w2 → K (a.put o.dst undef) w2) : o.wp Tryz.prog a w K Q :=
  wp_store_row 22 x y ho g _ hx hy 22 old hg (by rw [BA_size]; exact info32) (by rw [BA_size]; exact hold) (BA_one n) (h _ (setRow_heap w g old _ 22 (0, 0) hg) (only_setRow w g _))
theorem act_limbs {a : Act} {o : Oper} {w : World} {K : Act → World → Prop} {Q : Exit → Act → World → Prop} (x y : Operand) (ho : o.op = .store 142 x y)
    (g : Nat) (y0 y1 y2 y3 : Int) (hx : a.eval x = .pointer (some ⟨g, 0, none⟩)) (hy : a.eval y = .agg #[.int .u64 y0, .int .u64 y1, .int .u64 y2, .int .u64 y3]) (v0 v1 v2 v3 : Value) (hg : w.heap[g]? = some (.cells #[v0, v1, v2, v3] 142 (0, 0)))
    (h : ∀ w2, w2.heap[g]? = some (.cells #[.int .u64 y0, .int .u64 y1, .int .u64 y2, .int .u64 y3] 142 (0, 0)) → Only g w w2 → K (a.put o.dst undef) w2) : o.wp Tryz.prog a w K Q :=
  wp_store_row 142 x y ho g _ hx hy 142 _ hg (by kernel_rfl) rfl (by simp [Value.oneCell']) (h _ (setRow_heap w g _ _ 142 (0, 0) hg) (only_setRow w g _))
theorem heap_a32 (w : World) (A B C : Obj) : (((w.alloc A).alloc B).alloc C).heap[w.heap.size + 1]? = some B := by
  rw [Below.heap_alloc _ _ _ (by simp <;> omega)]
  exact heap_alloc2_new w A B
theorem heap_a31 (w : World) (A B C : Obj) : (((w.alloc A).alloc B).alloc C).heap[w.heap.size]? = some A := by
  rw [Below.heap_alloc _ _ _ (by simp <;> omega)]
  exact heap_alloc2_old w A B
theorem mod_lt_P (n : Int) : 0 ≤ n % P255 ∧ n % P255 < P255 := ⟨Int.emod_nonneg _ (by unfold P255; decide), Int.emod_lt_of_pos _ (by unfold P255; decide)⟩
theorem sub_num {z a b y o k : Int} (e1 : y = b % P255) (e2 : o = P255 - y) (e3 : z = a + o + k * P255) : z % P255 = (a - b) % P255 := by
  have hb : b = P255 * (b / P255) + b % P255 := (Int.mul_ediv_add_emod b P255).symm
  have : z = (a - b) + P255 * (1 + k + b / P255) := by rw [e3, e2, e1]; rw [Int.mul_add, Int.mul_add, Int.mul_one, Int.mul_comm P255 k]; omega
  rw [this, Int.add_mul_emod_self_left]
def subF (i : Nat) : Nat := [1, 0, 1].getD i 0
def subT (i : Nat) : Bool := i != 8
set_option maxHeartbeats 1000000 in
theorem sub_any (a b : Int) (w : World) (hP : PrimeAt w) (ha0 : 0 ≤ a) (ha1 : a < W256) (hb0 : 0 ≤ b) (hb1 : b < W256) :
    Calls Tryz.prog 167 #[.agg (BA a), .agg (BA b)] w fun e w' => e = .returned (.agg (BA ((a - b) % P255))) ∧ Below w.heap.size w w' := by
  have hp0 := primeAt_pos hP
  have HP := Hid.mk hP
  clear hP
  go_enter Tryz.func167, Tryz.ntmps167
  go_wp2
  refine wp_gen (fun v => v.heap[w.heap.size]? = some (.cells (BA a) 22 (0, 0)) ∧ v.heap[w.heap.size + 1]? = some (.cells (BA b) 22 (0, 0)) ∧
    (∃ z : Array Value, v.heap[w.heap.size + 1 + 1]? = some (.cells z 22 (0, 0)) ∧ z.size = 32) ∧ Below w.heap.size w v)
    ⟨heap_a31 w _ _ _, heap_a32 w _ _ _, ⟨_, heap_a3 w _ _ _, rfl⟩, by repeat first | exact Below.refl _ _ | refine Below.alloc ?_ (by simp <;> omega) _⟩ ?_
  rintro v0 ⟨ga, gb, ⟨z, gz, sz⟩, hB⟩
  refine wp_region_mixS (fun v => v.heap[w.heap.size]? = some (.cells (BA a) 22 (0, 0)) ∧ v.heap[w.heap.size + 1]? = some (.cells (BA b) 22 (0, 0)))
    subF subT [0, 2, 1, 3, 4, 5, 6, 7, 8] rfl (by kernel_rfl) (fun _ _ d _ _ h => by cases d <;> exact h) ⟨ga, gb⟩ (fun HS => ?_)
  apply mix_look rfl rfl rfl HS
  focus exact fun v h => look_bytes rfl _ _ rfl (BA_size _) h.1
  simp only [Act.put, List.setIfInBounds_toArray, List.set_cons_zero, List.set_cons_succ]
  apply mix_look rfl rfl rfl HS
  focus exact fun v h => look_bytes rfl _ _ rfl (BA_size _) h.2
  simp only [Act.put, List.setIfInBounds_toArray, List.set_cons_zero, List.set_cons_succ]
  clear HS ga gb
  refine mix_act rfl rfl rfl ?_
  intro K hK
  go_simp
  refine (load_any a _).mono ?_
  rintro e v1 ⟨rfl, hb⟩
  have gz := bheap hb gz (heap_lt gz)
  have hB := Below.trans (Below.drew hB) (hb.mono hB.size)
  refine hK _ _ (fun _ h => ⟨bheap hb h.1 (heap_lt h.1), bheap hb h.2 (heap_lt h.2)⟩) ?_
  clear hK K hb
  refine mix_act rfl rfl rfl ?_
  intro K hK
  go_simp
  refine (load_any b _).mono ?_
  rintro e v2 ⟨rfl, hb⟩
  have gz := bheap hb gz (heap_lt gz)
  have hB := Below.trans hB (hb.mono hB.size)
  refine hK _ _ (fun _ h => ⟨bheap hb h.1 (heap_lt h.1), bheap hb h.2 (heap_lt h.2)⟩) ?_
  clear hK K hb
  refine mix_act rfl rfl rfl ?_
  intro K hK
  go_simp
  refine (least_any _ _ _ _ _ (limb_u64 _ _) (limb_u64 _ _) (limb_u64 _ _) (limb_u64 _ _)).mono ?_
  rintro e v3 ⟨y0, y1, y2, y3, hy0, hy1, hy2, hy3, ey, rfl, hb⟩
  have gz := bheap hb gz (heap_lt gz)
  have hB := Below.trans hB (hb.mono hB.size)
  refine hK _ _ (fun _ h => ⟨bheap hb h.1 (heap_lt h.1), bheap hb h.2 (heap_lt h.2)⟩) ?_
  clear hK K hb
  rw [limb_V4 hb0 hb1] at ey
  have hy := (mod_lt_P b).2
  have EY := Hid.mk ey
  have hle : V4 y0 y1 y2 y3 ≤ P255 := by rw [ey]; omega
  clear ey hy
  have HL := Hid.mk hle
  clear hle
  refine mix_act rfl rfl rfl ?_
  intro K hK
  go_simp
  refine (opposite_any _ _ _ _ _ (primeAt_below HP.out hB hp0) hy0 hy1 hy2 hy3 HL.out).mono ?_
  rintro e v4 ⟨o0, o1, o2, o3, ho0, ho1, ho2, ho3, eo, rfl, hb⟩
  have gz := bheap hb gz (heap_lt gz)
  have hB := Below.trans hB (hb.mono hB.size)
  refine hK _ _ (fun _ h => ⟨bheap hb h.1 (heap_lt h.1), bheap hb h.2 (heap_lt h.2)⟩) ?_
  clear hK K hb
  have EO := Hid.mk eo
  clear eo
  refine mix_act rfl rfl rfl ?_
  intro K hK
  go_simp
  refine (plus_any _ _ _ _ _ _ _ _ _ (limb_u64 _ _) (limb_u64 _ _) (limb_u64 _ _) (limb_u64 _ _) ho0 ho1 ho2 ho3).mono ?_
  rintro e v5 ⟨q0, q1, q2, q3, hq0, hq1, hq2, hq3, ⟨k, ek⟩, rfl, hb⟩
  have gz := bheap hb gz (heap_lt gz)
  have hB := Below.trans hB (hb.mono hB.size)
  refine hK _ _ (fun _ h => ⟨bheap hb h.1 (heap_lt h.1), bheap hb h.2 (heap_lt h.2)⟩) ?_
  clear hK K hb
  rw [limb_V4 ha0 ha1] at ek
  have EK := Hid.mk (sub_num EY.out EO.out ek)
  clear ek
  refine mix_act rfl rfl rfl ?_
  intro K hK
  go_simp
  refine (store_any _ _ _ _ _ hq0 hq1 hq2 hq3).mono ?_
  rintro e v6 ⟨rfl, hb⟩
  have gz := bheap hb gz (heap_lt gz)
  have hB := Below.trans hB (hb.mono hB.size)
  refine hK _ _ (fun _ h => ⟨bheap hb h.1 (heap_lt h.1), bheap hb h.2 (heap_lt h.2)⟩) ?_
  clear hK K hb
  refine mix_act rfl rfl rfl ?_
  intro K hK
  refine act_bytes _ _ rfl _ _ rfl rfl _ gz sz ?_
  intro v7 g7 o7
  refine hK _ _ (fun h => by cases h) ?_
  clear hK K
  refine mix_done ?_
  go_wp2
  rw [EK.out] at g7
  exact bodyPost_ret (v := .agg (BA ((a - b) % P255))) (results_cell_row rfl _ _ _ _ _ _ _ rfl g7 Tryz.underlying22 rfl (by rw [BA_size]; exact info32)) rfl
    ⟨rfl, Below.trans hB (Only.below (b := w.heap.size + 1 + 1) (B := w.heap.size) o7 (by omega))⟩
end Go.Proofs.YthghcjepdhkfdaaGreatDoor.Fld

