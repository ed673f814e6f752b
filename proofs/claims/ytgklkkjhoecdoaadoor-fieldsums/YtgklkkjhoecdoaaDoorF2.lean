/-
  Own text. What word, load, putWord and store of package field answer, for every 32 bytes and every four words: contracts over the translation.
-/
import Derived.Test.YtgklkkjhoecdoaaDoorProg
import Derived.Test.YtgklkkjhoecdoaaDoorF1
import Derived.Deep.QuietTactic
import Derived.BigQuiet
import Derived.Laws.Bits64b
namespace Go.Proofs.YtgklkkjhoecdoaaDoor
open Go.RowKit Go.Proofs
def Byte (x : Int) : Prop := 0 ≤ x ∧ x < 256
theorem or_shift (a b : Int) (k : Nat) (ha : 0 ≤ a) (hb : 0 ≤ b) (hk : a < 2 ^ k) (hs : a + b * 2 ^ k < 18446744073709551616) :
    bits BinOp.or IntKind.u64 a (b * 2 ^ k) = a + b * 2 ^ k := by
  obtain ⟨A, rfl⟩ := Int.eq_ofNat_of_zero_le ha
  obtain ⟨B, rfl⟩ := Int.eq_ofNat_of_zero_le hb
  have e : ((B : Int) * 2 ^ k) = ((B * 2 ^ k : Nat) : Int) := by rw [Int.natCast_mul, Int.natCast_pow]; rfl
  have hA : A < 2 ^ k := by exact_mod_cast hk
  rw [e] at hs ⊢
  rw [bits_or_u64_nat _ _ (by omega) (by omega), Nat.or_comm, Nat.mul_comm, ← Nat.two_pow_add_eq_or_of_lt hA B]
  omega
theorem wrap_u64_id (z : Int) (h0 : 0 ≤ z) (h1 : z < 18446744073709551616) : IntKind.u64.wrap z = z := by rw [IntKind.wrap_u64]; omega
theorem or_256 (a b : Int) (ha : 0 ≤ a) (h : a < 256) (hb : Byte b) : bits BinOp.or IntKind.u64 a (IntKind.u64.wrap (IntKind.u64.wrap b * 256)) = a + b * 256 := by
  unfold Byte at hb
  rw [wrap_u64_id b (by omega) (by omega), wrap_u64_id _ (by omega) (by omega)]
  exact or_shift a b 8 ha hb.1 h (by omega)
theorem word_num (x0 x1 x2 x3 x4 x5 x6 x7 : Int) (h0 : Byte x0) (h1 : Byte x1) (h2 : Byte x2) (h3 : Byte x3) (h4 : Byte x4) (h5 : Byte x5) (h6 : Byte x6) (h7 : Byte x7) :
    bits BinOp.or IntKind.u64
      (bits BinOp.or IntKind.u64
        (bits BinOp.or IntKind.u64
          (bits BinOp.or IntKind.u64
            (bits BinOp.or IntKind.u64
              (bits BinOp.or IntKind.u64
                (bits BinOp.or IntKind.u64 (IntKind.u64.wrap x0)
                  (IntKind.u64.wrap (IntKind.u64.wrap x1 * 256)))
                (IntKind.u64.wrap (IntKind.u64.wrap x2 * 65536)))
              (IntKind.u64.wrap (IntKind.u64.wrap x3 * 16777216)))
            (IntKind.u64.wrap (IntKind.u64.wrap x4 * 4294967296)))
          (IntKind.u64.wrap (IntKind.u64.wrap x5 * 1099511627776)))
        (IntKind.u64.wrap (IntKind.u64.wrap x6 * 281474976710656)))
      (IntKind.u64.wrap (IntKind.u64.wrap x7 * 72057594037927936)) =
    x0 + x1 * 256 + x2 * 65536 + x3 * 16777216 + x4 * 4294967296 + x5 * 1099511627776 + x6 * 281474976710656 + x7 * 72057594037927936 := by
  unfold Byte at *
  rw [wrap_u64_id x0 (by omega) (by omega), wrap_u64_id x1 (by omega) (by omega), wrap_u64_id x2 (by omega) (by omega), wrap_u64_id x3 (by omega) (by omega),
    wrap_u64_id x4 (by omega) (by omega), wrap_u64_id x5 (by omega) (by omega), wrap_u64_id x6 (by omega) (by omega), wrap_u64_id x7 (by omega) (by omega)]
  rw [wrap_u64_id (x1 * 256) (by omega) (by omega), wrap_u64_id (x2 * 65536) (by omega) (by omega), wrap_u64_id (x3 * 16777216) (by omega) (by omega),
    wrap_u64_id (x4 * 4294967296) (by omega) (by omega), wrap_u64_id (x5 * 1099511627776) (by omega) (by omega), wrap_u64_id (x6 * 281474976710656) (by omega) (by omega), wrap_u64_id (x7 * 72057594037927936) (by omega) (by omega)]
  rw [show bits BinOp.or IntKind.u64 x0 (x1 * 256) = x0 + x1 * 256 from or_shift _ _ 8 (by omega) (by omega) (by omega) (by omega)]
  rw [show bits BinOp.or IntKind.u64 (x0 + x1 * 256) (x2 * 65536) = x0 + x1 * 256 + x2 * 65536 from or_shift _ _ 16 (by omega) (by omega) (by omega) (by omega)]
  rw [show bits BinOp.or IntKind.u64 (x0 + x1 * 256 + x2 * 65536) (x3 * 16777216) = x0 + x1 * 256 + x2 * 65536 + x3 * 16777216 from or_shift _ _ 24 (by omega) (by omega) (by omega) (by omega)]
  rw [show bits BinOp.or IntKind.u64 (x0 + x1 * 256 + x2 * 65536 + x3 * 16777216) (x4 * 4294967296) = x0 + x1 * 256 + x2 * 65536 + x3 * 16777216 + x4 * 4294967296 from or_shift _ _ 32 (by omega) (by omega) (by omega) (by omega)]
  rw [show bits BinOp.or IntKind.u64 (x0 + x1 * 256 + x2 * 65536 + x3 * 16777216 + x4 * 4294967296) (x5 * 1099511627776) = x0 + x1 * 256 + x2 * 65536 + x3 * 16777216 + x4 * 4294967296 + x5 * 1099511627776 from or_shift _ _ 40 (by omega) (by omega) (by omega) (by omega)]
  rw [show bits BinOp.or IntKind.u64 (x0 + x1 * 256 + x2 * 65536 + x3 * 16777216 + x4 * 4294967296 + x5 * 1099511627776) (x6 * 281474976710656) = x0 + x1 * 256 + x2 * 65536 + x3 * 16777216 + x4 * 4294967296 + x5 * 1099511627776 + x6 * 281474976710656 from or_shift _ _ 48 (by omega) (by omega) (by omega) (by omega)]
  exact or_shift _ _ 56 (by omega) (by omega) (by omega) (by omega)
/-- Eight bytes, the lowest first, as a number. -/
def V8 (x0 x1 x2 x3 x4 x5 x6 x7 : Int) : Int := x0 + x1 * 256 + x2 * 65536 + x3 * 16777216 + x4 * 4294967296 + x5 * 1099511627776 + x6 * 281474976710656 + x7 * 72057594037927936
theorem V8_u64 {x0 x1 x2 x3 x4 x5 x6 x7 : Int} (h0 : Byte x0) (h1 : Byte x1) (h2 : Byte x2) (h3 : Byte x3) (h4 : Byte x4) (h5 : Byte x5) (h6 : Byte x6) (h7 : Byte x7) : U64 (V8 x0 x1 x2 x3 x4 x5 x6 x7) := by
  unfold U64 V8 Byte at *; omega
theorem ret_int {k : IntKind} {a b : Int} (h : a = b) : Ending.returned (.int k a) = .returned (.int k b) := by rw [h]
set_option maxHeartbeats 1000000 in
theorem word_any (b off cap : Nat) (x0 x1 x2 x3 x4 x5 x6 x7 : Int) (w : World) (h0 : Byte x0) (h1 : Byte x1) (h2 : Byte x2) (h3 : Byte x3) (h4 : Byte x4) (h5 : Byte x5) (h6 : Byte x6) (h7 : Byte x7)
    (c0 : w.cell? ⟨b, off, none⟩ = some (.int .u8 x0)) (c1 : w.cell? ⟨b, off + 1, none⟩ = some (.int .u8 x1))
    (c2 : w.cell? ⟨b, off + 2, none⟩ = some (.int .u8 x2)) (c3 : w.cell? ⟨b, off + 3, none⟩ = some (.int .u8 x3))
    (c4 : w.cell? ⟨b, off + 4, none⟩ = some (.int .u8 x4)) (c5 : w.cell? ⟨b, off + 5, none⟩ = some (.int .u8 x5))
    (c6 : w.cell? ⟨b, off + 6, none⟩ = some (.int .u8 x6)) (c7 : w.cell? ⟨b, off + 7, none⟩ = some (.int .u8 x7)) :
    Calls Tryd.prog 40 #[.slice (some ⟨b, off, none⟩) 8 cap] w fun e w' => e = .returned (.int .u64 (V8 x0 x1 x2 x3 x4 x5 x6 x7)) ∧ ∃ n, w' = w.drewN n := by
  go_enter Tryd.func40, Tryd.ntmps40
  go_wp2
  go_quiet (fail)
  go_wp2
  go_ret
  exact ⟨ret_int (word_num x0 x1 x2 x3 x4 x5 x6 x7 h0 h1 h2 h3 h4 h5 h6 h7), _, rfl⟩
end Go.Proofs.YtgklkkjhoecdoaaDoor
