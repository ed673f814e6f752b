/-
  Own text. What a MAC stands for: the blocks so far, and what is left of one.
-/
import Derived.Test.YtfbeclleeehaaaaN10
import Derived.Test.YtfbeclleeehaaaaP7
namespace Go.Proofs.Ytfbeclleeehaaaa
open Go.RowKit Go.Proofs
theorem accN_eq {r : Int} {f f' : Nat → Int} {n n' : Nat} : ∀ (k : Nat), 16 * k ≤ n → 16 * k ≤ n' → (∀ i, i < 16 * k → f i = f' i) → accN r f n k = accN r f' n' k
  | 0, _, _, _ => rfl
  | k + 1, h1, h2, h => by
    unfold accN
    rw [accN_eq (n := n) (n' := n') (f := f) (f' := f') k (by omega) (by omega) (fun i hi => h i (by omega)), show min 16 (n - 16 * k) = 16 by omega, show min 16 (n' - 16 * k) = 16 by omega]
    unfold blkN
    rw [dval_congr (t := fun i => f' (16 * k + i)) (fun i hi => h _ (by omega))]
/-- What a MAC by this key stands for behind n bytes. -/
structure St (key f : Nat → Int) (n : Nat) (R S Z H : Nat → Int) : Prop where
  rd : Dg 67108864 5 R
  rn : qv R 5 = rN key
  s0 : U64 (S 0)
  s1 : U64 (S 1)
  sn : S 0 + 18446744073709551616 * S 1 = sN key
  zs : Sm Z
  zn : qv Z 5 % P130 = accN (rN key) f n (n / 16)
  hb : Byts 16 H
  he : ∀ j, j < n % 16 → H j = f (16 * (n / 16) + j)
theorem St.congr {key f f' : Nat → Int} {n : Nat} {R S Z H : Nat → Int} (h : St key f n R S Z H) (e : ∀ i, i < n → f i = f' i) : St key f' n R S Z H :=
  ⟨h.rd, h.rn, h.s0, h.s1, h.sn, h.zs, by rw [h.zn]; exact accN_eq (n / 16) (by omega) (by omega) (fun i hi => e i (by omega)), h.hb, fun j hj => by rw [h.he j hj]; exact e _ (by omega)⟩
theorem acc_step {A B r Y q : Int} (h : (A + B) * r = Y + P130 * q) : Y % P130 = (A % P130 + B) * r % P130 := by
  have e : Y = (A + B) * r + P130 * (-q) := by rw [Int.mul_neg]; omega
  rw [e, Int.add_mul_emod_self_left, Int.mul_emod, ← Int.emod_add_emod, ← Int.mul_emod]
/-- Bytes that fill no block. -/
theorem St.part {key f : Nat → Int} {n m : Nat} {R S Z H H' : Nat → Int} (h : St key f n R S Z H) (hm : n % 16 + m < 16) (hb : Byts 16 H') (he : ∀ j, j < n % 16 + m → H' j = f (16 * (n / 16) + j)) : St key f (n + m) R S Z H' := by
  have e1 : (n + m) / 16 = n / 16 := by omega
  have e2 : (n + m) % 16 = n % 16 + m := by omega
  refine ⟨h.rd, h.rn, h.s0, h.s1, h.sn, h.zs, ?_, hb, fun j hj => ?_⟩
  · rw [h.zn, e1]
    exact accN_eq _ (by omega) (by omega) (fun _ _ => rfl)
  · rw [e2] at hj
    rw [e1]
    exact he j hj
/-- Bytes that fill a block. -/
theorem St.full {key f : Nat → Int} {n m : Nat} {R S Z H H' z : Nat → Int} (h : St key f n R S Z H) (hm : n % 16 + m = 16) (hb : Byts 16 H') (he : ∀ j, j < 16 → H' j = f (16 * (n / 16) + j)) (hz : Sm z)
    {q : Int} (hq : (qv Z 5 + (dval H' 16 + 256 ^ 16)) * qv R 5 = qv z 5 + P130 * q) : St key f (n + m) R S z H' := by
  have e1 : (n + m) / 16 = n / 16 + 1 := by omega
  have e2 : (n + m) % 16 = 0 := by omega
  refine ⟨h.rd, h.rn, h.s0, h.s1, h.sn, hz, ?_, hb, fun j hj => by omega⟩
  rw [acc_step hq, h.zn, h.rn, e1]
  show _ = (accN (rN key) f (n + m) (n / 16) + blkN f (16 * (n / 16)) (min 16 (n + m - 16 * (n / 16)))) * rN key % P130
  rw [show min 16 (n + m - 16 * (n / 16)) = 16 by omega, accN_eq (n := n) (n' := n + m) (f := f) (f' := f) (n / 16) (by omega) (by omega) (fun _ _ => rfl)]
  unfold blkN
  rw [dval_congr he]
/-- The mark of all so far, where a block is left. -/
theorem St.left {key f : Nat → Int} {n : Nat} {R S Z H z : Nat → Int} (h : St key f n R S Z H) (hn : 0 < n % 16) {q : Int} (hq : (qv Z 5 + (dval H (n % 16) + 256 ^ (n % 16))) * qv R 5 = qv z 5 + P130 * q) :
    (qv z 5 % P130 + (S 0 + 18446744073709551616 * S 1)) % 340282366920938463463374607431768211456 = markN key f n := by
  unfold markN
  rw [acc_step hq, h.zn, h.rn, h.sn, show (n + 15) / 16 = n / 16 + 1 by omega]
  show _ = ((accN (rN key) f n (n / 16) + blkN f (16 * (n / 16)) (min 16 (n - 16 * (n / 16)))) * rN key % P130 + sN key) % 340282366920938463463374607431768211456
  rw [show min 16 (n - 16 * (n / 16)) = n % 16 by omega]
  unfold blkN
  rw [dval_congr h.he]
theorem St.none {key f : Nat → Int} {n : Nat} {R S Z H : Nat → Int} (h : St key f n R S Z H) (hn : n % 16 = 0) :
    (qv Z 5 % P130 + (S 0 + 18446744073709551616 * S 1)) % 340282366920938463463374607431768211456 = markN key f n := by
  unfold markN
  rw [h.zn, h.sn, show (n + 15) / 16 = n / 16 by omega]
/-- A MAC by this key, behind n bytes. -/
def MacN (w : World) (b : Nat) (key f : Nat → Int) (n : Nat) : Prop := ∃ R S Z H, MacAt w b R S Z H ((n % 16 : Nat) : Int) ∧ St key f n R S Z H
theorem MacN.lt {w : World} {b : Nat} {key f : Nat → Int} {n : Nat} (h : MacN w b key f n) : b < w.heap.size := by
  obtain ⟨R, S, Z, H, h, _⟩ := h
  exact h.lt
theorem MacN.block {w w' : World} {b : Nat} {key f : Nat → Int} {n : Nat} (h : MacN w b key f n) (e : w'.heap[b]? = w.heap[b]?) : MacN w' b key f n := by
  obtain ⟨R, S, Z, H, h, hs⟩ := h
  exact ⟨R, S, Z, H, h.block e, hs⟩
theorem MacN.congr {w : World} {b : Nat} {key f f' : Nat → Int} {n : Nat} (h : MacN w b key f n) (e : ∀ i, i < n → f i = f' i) : MacN w b key f' n := by
  obtain ⟨R, S, Z, H, h, hs⟩ := h
  exact ⟨R, S, Z, H, h, hs.congr e⟩
theorem MacN.kept {w w' : World} {b : Nat} {key f : Nat → Int} {n : Nat} (h : MacN w b key f n) (hb : Below w.heap.size w w') : MacN w' b key f n := h.block (hb.block b h.lt)
theorem Only.touch {b : Nat} {w w' : World} (h : Only b w w') : Touch (fun k => k = b) w w' := touch_only h
theorem Below.touch {w w' : World} (b : Nat) (h : Below w.heap.size w w') : Touch (fun k => k = b) w w' := ⟨h.os, h.tape, h.output, h.size, fun k hk _ => h.block k hk⟩
-- r and s out of the key
theorem and_split (A B M N k : Nat) (hA : A < 2 ^ k) (hM : M < 2 ^ k) : (A + 2 ^ k * B) &&& (M + 2 ^ k * N) = (A &&& M) + 2 ^ k * (B &&& N) := by
  apply Nat.eq_of_testBit_eq
  intro i
  have h1 : A &&& M < 2 ^ k := Nat.lt_of_le_of_lt Nat.and_le_left hA
  rw [Nat.testBit_and, Nat.add_comm A, Nat.add_comm M, Nat.add_comm (A &&& M), Nat.testBit_two_pow_mul_add _ hA, Nat.testBit_two_pow_mul_add _ hM, Nat.testBit_two_pow_mul_add _ h1]
  split
  · rw [Nat.testBit_and]
  · rw [Nat.testBit_and]
theorem and28 (A : Nat) : A &&& 268435455 = A % 268435456 := Nat.and_two_pow_sub_one_eq_mod A 28
theorem and28c (A : Nat) : A &&& 268435452 = A % 268435456 / 4 * 4 := by
  have h := and_split (A % 4) (A / 4) 0 67108863 2 (by omega) (by decide)
  rw [show A % 4 + 2 ^ 2 * (A / 4) = A by omega, show 0 + 2 ^ 2 * 67108863 = 268435452 from rfl, Nat.and_zero] at h
  have h2 : A / 4 &&& 67108863 = A / 4 % 67108864 := Nat.and_two_pow_sub_one_eq_mod (A / 4) 26
  rw [h, h2]
  omega
theorem and_lowR {x : Int} (h0 : 0 ≤ x) (h1 : x < 18446744073709551616) : bits BinOp.and IntKind.u64 x 1152921487695413247 = x % 268435456 + 4294967296 * (x / 4294967296 % 268435456 / 4 * 4) := by
  obtain ⟨n, rfl⟩ := Int.eq_ofNat_of_zero_le h0
  have h := and_split (n % 4294967296) (n / 4294967296) 268435455 268435452 32 (by omega) (by decide)
  rw [show n % 4294967296 + 2 ^ 32 * (n / 4294967296) = n by omega, show 268435455 + 2 ^ 32 * 268435452 = 1152921487695413247 from rfl, and28, and28c] at h
  rw [show (1152921487695413247 : Int) = ((1152921487695413247 : Nat) : Int) from rfl, bits_and_u64_nat _ _ (by omega) (by omega), h]
  omega
theorem and_highR {x : Int} (h0 : 0 ≤ x) (h1 : x < 18446744073709551616) : bits BinOp.and IntKind.u64 x 1152921487695413244 = x % 268435456 / 4 * 4 + 4294967296 * (x / 4294967296 % 268435456 / 4 * 4) := by
  obtain ⟨n, rfl⟩ := Int.eq_ofNat_of_zero_le h0
  have h := and_split (n % 4294967296) (n / 4294967296) 268435452 268435452 32 (by omega) (by decide)
  rw [show n % 4294967296 + 2 ^ 32 * (n / 4294967296) = n by omega, show 268435452 + 2 ^ 32 * 268435452 = 1152921487695413244 from rfl, and28c, and28c] at h
  rw [show (1152921487695413244 : Int) = ((1152921487695413244 : Nat) : Int) from rfl, bits_and_u64_nat _ _ (by omega) (by omega), h]
  omega
theorem dval8 (s : Nat → Int) : dval s 8 = s 0 + 256 * s 1 + 65536 * s 2 + 16777216 * s 3 + 4294967296 * s 4 + 1099511627776 * s 5 + 281474976710656 * s 6 + 72057594037927936 * s 7 := by
  simp only [dval, Int.reducePow, Int.pow_zero]
  omega
theorem low_r {key : Nat → Int} (hk : Byts 32 key) : bits BinOp.and IntKind.u64 (dval key 8) 1152921487695413247 = dval (rdig key) 8 := by
  have hb := dval8_b (s := key) (fun i hi => hk i (by omega))
  rw [and_lowR hb.1 hb.2, dval8 key, dval8 (rdig key)]
  have h0 := hk 0 (by decide)
  have h1 := hk 1 (by decide)
  have h2 := hk 2 (by decide)
  have h3 := hk 3 (by decide)
  have h4 := hk 4 (by decide)
  have h5 := hk 5 (by decide)
  have h6 := hk 6 (by decide)
  have h7 := hk 7 (by decide)
  simp [rdig]
  omega
theorem high_r {key : Nat → Int} (hk : Byts 32 key) : bits BinOp.and IntKind.u64 (dval (fun j => key (8 + j)) 8) 1152921487695413244 = dval (fun j => rdig key (8 + j)) 8 := by
  have hb := dval8_b (s := fun j => key (8 + j)) (fun i hi => hk (8 + i) (by omega))
  rw [and_highR hb.1 hb.2, dval8 (fun j => key (8 + j)), dval8 (fun j => rdig key (8 + j))]
  have h0 := hk 8 (by decide)
  have h1 := hk 9 (by decide)
  have h2 := hk 10 (by decide)
  have h3 := hk 11 (by decide)
  have h4 := hk 12 (by decide)
  have h5 := hk 13 (by decide)
  have h6 := hk 14 (by decide)
  have h7 := hk 15 (by decide)
  simp [rdig]
  omega
end Go.Proofs.Ytfbeclleeehaaaa
