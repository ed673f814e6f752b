/-
  Own text. What word, putWord and limbsOf of package poly answer: contracts over the translation.
-/
import Derived.Test.YtfbeclleeehaaaaN2
import Derived.Deep.QuietTactic
import Derived.BigQuiet
namespace Go.Proofs.Ytfbeclleeehaaaa
open Go.RowKit Go.Proofs
def Byte (x : Int) : Prop := 0 ≤ x ∧ x < 256
theorem or_shift (a b : Int) (k : Nat) (ha : 0 ≤ a) (hb : 0 ≤ b) (hk : a < 2 ^ k) (hs : a + b * 2 ^ k < 18446744073709551616) :
    bits BinOp.or IntKind.u64 a (b * 2 ^ k) = a + b * 2 ^ k := by
  obtain ⟨A, rfl⟩ := Int.eq_ofNat_of_zero_le ha
  obtain ⟨B, rfl⟩ := Int.eq_ofNat_of_zero_le hb
  have e : ((B : Int) * 2 ^ k) = ((B * 2 ^ k : Nat) : Int) := by rw [Int.natCast_mul, Int.natCast_pow]; rfl
  have hA : A < 2 ^ k := by exact_mod_cast hk
  rw [e] at hs ⊢
  rw [bits_or_u64_nat _ _ (by omega) (by omega), Nat.or_comm, Nat.mul_comm, ← Nat.two_pow_add_eq_or_of_lt hA B]
  omega
theorem wrap_u64_id (z : Int) (h0 : 0 ≤ z) (h1 : z < 18446744073709551616) : IntKind.u64.wrap z = z := w64 h0 h1
theorem or_256 (a b : Int) (ha : 0 ≤ a) (h : a < 256) (hb : Byte b) : bits BinOp.or IntKind.u64 a (IntKind.u64.wrap (IntKind.u64.wrap b * 256)) = a + b * 256 := by
  unfold Byte at hb
  rw [wrap_u64_id b (by omega) (by omega), wrap_u64_id _ (by omega) (by omega)]
  exact or_shift a b 8 ha hb.1 h (by omega)
theorem word_num (x0 x1 x2 x3 x4 x5 x6 x7 : Int) (h0 : Byte x0) (h1 : Byte x1) (h2 : Byte x2) (h3 : Byte x3) (h4 : Byte x4) (h5 : Byte x5) (h6 : Byte x6) (h7 : Byte x7) :
    bits BinOp.or IntKind.u64
      (bits BinOp.or IntKind.u64
        (bits BinOp.or IntKind.u64
          (bits BinOp.or IntKind.u64
            (bits BinOp.or IntKind.u64
              (bits BinOp.or IntKind.u64
                (bits BinOp.or IntKind.u64 (IntKind.u64.wrap x0)
                  (IntKind.u64.wrap (IntKind.u64.wrap x1 * 256)))
                (IntKind.u64.wrap (IntKind.u64.wrap x2 * 65536)))
              (IntKind.u64.wrap (IntKind.u64.wrap x3 * 16777216)))
            (IntKind.u64.wrap (IntKind.u64.wrap x4 * 4294967296)))
          (IntKind.u64.wrap (IntKind.u64.wrap x5 * 1099511627776)))
        (IntKind.u64.wrap (IntKind.u64.wrap x6 * 281474976710656)))
      (IntKind.u64.wrap (IntKind.u64.wrap x7 * 72057594037927936)) =
    x0 + x1 * 256 + x2 * 65536 + x3 * 16777216 + x4 * 4294967296 + x5 * 1099511627776 + x6 * 281474976710656 + x7 * 72057594037927936 := by
  unfold Byte at *
  rw [wrap_u64_id x0 (by omega) (by omega), wrap_u64_id x1 (by omega) (by omega), wrap_u64_id x2 (by omega) (by omega), wrap_u64_id x3 (by omega) (by omega),
    wrap_u64_id x4 (by omega) (by omega), wrap_u64_id x5 (by omega) (by omega), wrap_u64_id x6 (by omega) (by omega), wrap_u64_id x7 (by omega) (by omega)]
  rw [wrap_u64_id (x1 * 256) (by omega) (by omega), wrap_u64_id (x2 * 65536) (by omega) (by omega), wrap_u64_id (x3 * 16777216) (by omega) (by omega),
    wrap_u64_id (x4 * 4294967296) (by omega) (by omega), wrap_u64_id (x5 * 1099511627776) (by omega) (by omega), wrap_u64_id (x6 * 281474976710656) (by omega) (by omega), wrap_u64_id (x7 * 72057594037927936) (by omega) (by omega)]
  rw [show bits BinOp.or IntKind.u64 x0 (x1 * 256) = x0 + x1 * 256 from or_shift _ _ 8 (by omega) (by omega) (by omega) (by omega)]
  rw [show bits BinOp.or IntKind.u64 (x0 + x1 * 256) (x2 * 65536) = x0 + x1 * 256 + x2 * 65536 from or_shift _ _ 16 (by omega) (by omega) (by omega) (by omega)]
  rw [show bits BinOp.or IntKind.u64 (x0 + x1 * 256 + x2 * 65536) (x3 * 16777216) = x0 + x1 * 256 + x2 * 65536 + x3 * 16777216 from or_shift _ _ 24 (by omega) (by omega) (by omega) (by omega)]
  rw [show bits BinOp.or IntKind.u64 (x0 + x1 * 256 + x2 * 65536 + x3 * 16777216) (x4 * 4294967296) = x0 + x1 * 256 + x2 * 65536 + x3 * 16777216 + x4 * 4294967296 from or_shift _ _ 32 (by omega) (by omega) (by omega) (by omega)]
  rw [show bits BinOp.or IntKind.u64 (x0 + x1 * 256 + x2 * 65536 + x3 * 16777216 + x4 * 4294967296) (x5 * 1099511627776) = x0 + x1 * 256 + x2 * 65536 + x3 * 16777216 + x4 * 4294967296 + x5 * 1099511627776 from or_shift _ _ 40 (by omega) (by omega) (by omega) (by omega)]
  rw [show bits BinOp.or IntKind.u64 (x0 + x1 * 256 + x2 * 65536 + x3 * 16777216 + x4 * 4294967296 + x5 * 1099511627776) (x6 * 281474976710656) = x0 + x1 * 256 + x2 * 65536 + x3 * 16777216 + x4 * 4294967296 + x5 * 1099511627776 + x6 * 281474976710656 from or_shift _ _ 48 (by omega) (by omega) (by omega) (by omega)]
  exact or_shift _ _ 56 (by omega) (by omega) (by omega) (by omega)
/-- Eight bytes, the lowest first, as a number. -/
def V8 (x0 x1 x2 x3 x4 x5 x6 x7 : Int) : Int := x0 + x1 * 256 + x2 * 65536 + x3 * 16777216 + x4 * 4294967296 + x5 * 1099511627776 + x6 * 281474976710656 + x7 * 72057594037927936
theorem ret_int {k : IntKind} {a b : Int} (h : a = b) : Ending.returned (.int k a) = .returned (.int k b) := by rw [h]
set_option maxHeartbeats 1000000 in
theorem word_any (b off cap : Nat) (x0 x1 x2 x3 x4 x5 x6 x7 : Int) (w : World) (h0 : Byte x0) (h1 : Byte x1) (h2 : Byte x2) (h3 : Byte x3) (h4 : Byte x4) (h5 : Byte x5) (h6 : Byte x6) (h7 : Byte x7)
    (c0 : w.cell? ⟨b, off, none⟩ = some (.int .u8 x0)) (c1 : w.cell? ⟨b, off + 1, none⟩ = some (.int .u8 x1))
    (c2 : w.cell? ⟨b, off + 2, none⟩ = some (.int .u8 x2)) (c3 : w.cell? ⟨b, off + 3, none⟩ = some (.int .u8 x3))
    (c4 : w.cell? ⟨b, off + 4, none⟩ = some (.int .u8 x4)) (c5 : w.cell? ⟨b, off + 5, none⟩ = some (.int .u8 x5))
    (c6 : w.cell? ⟨b, off + 6, none⟩ = some (.int .u8 x6)) (c7 : w.cell? ⟨b, off + 7, none⟩ = some (.int .u8 x7)) :
    Calls Try.prog 18 #[.slice (some ⟨b, off, none⟩) 8 cap] w fun e w' => e = .returned (.int .u64 (V8 x0 x1 x2 x3 x4 x5 x6 x7)) ∧ ∃ n, w' = w.drewN n := by
  go_enter Try.func18, Try.ntmps18
  go_wp2
  go_quiet (fail)
  go_wp2
  go_ret
  exact ⟨ret_int (word_num x0 x1 x2 x3 x4 x5 x6 x7 h0 h1 h2 h3 h4 h5 h6 h7), _, rfl⟩
theorem V8_dval (s : Nat → Int) : V8 (s 0) (s 1) (s 2) (s 3) (s 4) (s 5) (s 6) (s 7) = dval s 8 := by
  simp only [dval, V8, Int.reducePow, Int.pow_zero]
  omega
theorem pword_run (b off cap : Nat) (s : Nat → Int) (w : World) (hs : Byts 8 s) (hc : ∀ j, j < 8 → w.cell? ⟨b, off + j, none⟩ = some (.int .u8 (s j))) :
    Calls Try.prog 18 #[.slice (some ⟨b, off, none⟩) 8 cap] w fun e w' => e = .returned (.int .u64 (dval s 8)) ∧ Below w.heap.size w w' := by
  rw [← V8_dval]
  refine (word_any b off cap _ _ _ _ _ _ _ _ w (hs 0 (by decide)) (hs 1 (by decide)) (hs 2 (by decide)) (hs 3 (by decide)) (hs 4 (by decide)) (hs 5 (by decide)) (hs 6 (by decide)) (hs 7 (by decide))
    (hc 0 (by decide)) (hc 1 (by decide)) (hc 2 (by decide)) (hc 3 (by decide)) (hc 4 (by decide)) (hc 5 (by decide)) (hc 6 (by decide)) (hc 7 (by decide))).mono ?_
  rintro e w' ⟨rfl, n, rfl⟩
  exact ⟨rfl, ⟨rfl, rfl, rfl, Nat.le_refl _, fun _ _ => rfl⟩⟩
theorem dval8_b {s : Nat → Int} (hs : Byts 8 s) : 0 ≤ dval s 8 ∧ dval s 8 < 18446744073709551616 := by
  have h1 := dval_nonneg (s := s) (n := 8) (fun i hi => (hs i hi).1)
  have h2 := dval_lt (s := s) (n := 8) hs
  rw [show (256 : Int) ^ 8 = 18446744073709551616 from by decide] at h2
  exact ⟨h1, h2⟩
/-- Five numbers as a row. -/
def pk5 (a0 a1 a2 a3 a4 : Int) : Nat → Int
  | 0 => a0
  | 1 => a1
  | 2 => a2
  | 3 => a3
  | 4 => a4
  | _ => 0
theorem or_and (low high : Int) (hl : 0 ≤ low ∧ low < 18446744073709551616) :
    bits BinOp.and IntKind.u64 (bits BinOp.or IntKind.u64 (low / 4503599627370496) (IntKind.u64.wrap (high * 4096))) 67108863 = low / 4503599627370496 + high % 16384 * 4096 := by
  have e : IntKind.u64.wrap (high * 4096) = (high % 4503599627370496) * 2 ^ 12 := by rw [IntKind.wrap_u64]; omega
  rw [e, or_shift _ _ 12 (by omega) (by omega) (by omega) (by omega), and26 (by omega) (by omega)]
  omega
/-- The digits of low + high * 2^64 + top * 2^128. -/
def lofs (low high top : Int) : Nat → Int := pk5 (low % 67108864) (low / 67108864 % 67108864) (low / 4503599627370496 + high % 16384 * 4096) (high / 16384 % 67108864) (high / 1099511627776 + top * 16777216)
theorem lofs_dg {low high top : Int} (hl : 0 ≤ low ∧ low < 18446744073709551616) (hh : 0 ≤ high ∧ high < 18446744073709551616) (ht : 0 ≤ top ∧ top < 4) : Dg 67108864 5 (lofs low high top) := by
  intro i hi
  match i, hi with
  | 0, _ => show 0 ≤ low % 67108864 ∧ low % 67108864 < 67108864; omega
  | 1, _ => show 0 ≤ low / 67108864 % 67108864 ∧ low / 67108864 % 67108864 < 67108864; omega
  | 2, _ => show 0 ≤ low / 4503599627370496 + high % 16384 * 4096 ∧ low / 4503599627370496 + high % 16384 * 4096 < 67108864; omega
  | 3, _ => show 0 ≤ high / 16384 % 67108864 ∧ high / 16384 % 67108864 < 67108864; omega
  | 4, _ => show 0 ≤ high / 1099511627776 + top * 16777216 ∧ high / 1099511627776 + top * 16777216 < 67108864; omega
theorem lofs_num (low high top : Int) : qv (lofs low high top) 5 = low + 18446744073709551616 * high + 340282366920938463463374607431768211456 * top := by
  rw [qv5]
  simp only [lofs, pk5]
  omega
set_option maxHeartbeats 4000000 in
theorem limbsOf_run (low high top : Int) (w : World) (hl : 0 ≤ low ∧ low < 18446744073709551616) (hh : 0 ≤ high ∧ high < 18446744073709551616) (ht : 0 ≤ top ∧ top < 4) :
    Calls Try.prog 17 #[.int .u64 low, .int .u64 high, .int .u64 top] w fun e w' => e = .returned (.agg (WA .u64 5 (lofs low high top))) ∧ Below w.heap.size w w' := by
  go_enter Try.func17, Try.ntmps17
  go_wp2_with fail
  have e2 := or_and low high hl
  have e4 : bits BinOp.or IntKind.u64 (high / 1099511627776) (top * 16777216) = high / 1099511627776 + top * 16777216 := or_shift _ _ 24 (by omega) (by omega) (by omega) (by omega)
  have e0 := and26 (z := low) (by omega) (by omega)
  have e1 := and26 (z := low / 67108864) (by omega) (by omega)
  have e3 := and26 (z := high / 16384) (by omega) (by omega)
  rw [e0, e1, e2, e3, e4]
  exact bodyPost_ret (v := .agg (WA .u64 5 (lofs low high top))) (res_arr Try.results17 isL (show ArrAt _ w.heap.size .u64 40 5 (lofs low high top) from heap_alloc_new w _) (by rfl)) rfl ⟨rfl, (Below.refl _ w).alloc (Nat.le_refl _) _⟩
theorem dval_digN8 (lo hi : Int) (i : Nat) (h : i < 8) : digN lo i = digN (lo + 18446744073709551616 * hi) i := by
  unfold digN
  have e : (18446744073709551616 : Int) = 256 ^ i * (256 * 256 ^ (7 - i)) := by
    rw [show (18446744073709551616 : Int) = 256 ^ 8 by decide, ← Int.mul_assoc, Int.mul_assoc, show (256 : Int) * 256 ^ (7 - i) = 256 ^ (8 - i) from by rw [show 8 - i = (7 - i) + 1 by omega, Int.pow_succ, Int.mul_comm], ← Int.pow_add]
    congr 1
    omega
  rw [e, Int.mul_assoc, Int.add_mul_ediv_left _ _ (Int.ne_of_gt (p256 i)), Int.mul_assoc]
  omega
end Go.Proofs.Ytfbeclleeehaaaa
