/-
  Own text. Words of bytes: what wordAt and putWord of package chacha give.
-/
import Derived.Test.YtfgebcemdjplnaaA7
namespace Go.Proofs.Ytfgebcemdjplnaa
open Go.RowKit Go.Proofs
def Byts (n : Nat) (s : Nat → Int) : Prop := ∀ i, i < n → 0 ≤ s i ∧ s i < 256
/-- Word i of some bytes, the lowest byte first. -/
def wrd (s : Nat → Int) (i : Nat) : Int := s (4 * i) + 256 * s (4 * i + 1) + 65536 * s (4 * i + 2) + 16777216 * s (4 * i + 3)
theorem wrd_w {n : Nat} {s : Nat → Int} {i : Nat} (h : Byts n s) (hi : 4 * i + 4 ≤ n) : W32 (wrd s i) := by
  have h0 := h (4 * i) (by omega)
  have h1 := h (4 * i + 1) (by omega)
  have h2 := h (4 * i + 2) (by omega)
  have h3 := h (4 * i + 3) (by omega)
  unfold wrd W32
  omega
theorem or_add (a b : Int) (k : Nat) (q : Int) (hq : q = ((2 ^ k : Nat) : Int)) (h0 : 0 ≤ a) (h1 : a < q) (h2 : a < 4294967296) (k0 : 0 ≤ b) (k1 : b * q < 4294967296) : bits .or .u32 a (b * q) = a + b * q := by
  obtain ⟨m, rfl⟩ := Int.eq_ofNat_of_zero_le h0
  obtain ⟨n, rfl⟩ := Int.eq_ofNat_of_zero_le k0
  subst hq
  have e : (n : Int) * ((2 ^ k : Nat) : Int) = ((2 ^ k * n : Nat) : Int) := by rw [Int.mul_comm]; rfl
  rw [e] at k1 ⊢
  have hm : m < 2 ^ k := Int.ofNat_lt.1 h1
  have hn : 2 ^ k * n < 4294967296 := Int.ofNat_lt.1 k1
  have h3 := Nat.two_pow_add_eq_or_of_lt hm n
  have hl : m < 4294967296 := by omega
  rw [u32_or_nat m _ hl hn, Nat.or_comm, ← h3]
  omega
theorem or4 (x0 x1 x2 x3 : Int) (h0 : 0 ≤ x0 ∧ x0 < 256) (h1 : 0 ≤ x1 ∧ x1 < 256) (h2 : 0 ≤ x2 ∧ x2 < 256) (h3 : 0 ≤ x3 ∧ x3 < 256) :
    bits .or .u32 (bits .or .u32 (bits .or .u32 x0 (x1 * 256)) (x2 * 65536)) (x3 * 16777216) = x0 + 256 * x1 + 65536 * x2 + 16777216 * x3 := by
  rw [or_add x0 x1 8 256 rfl (by omega) (by omega) (by omega) (by omega) (by omega), or_add _ x2 16 65536 rfl (by omega) (by omega) (by omega) (by omega) (by omega), or_add _ x3 24 16777216 rfl (by omega) (by omega) (by omega) (by omega) (by omega)]
  omega
set_option maxHeartbeats 1000000 in
theorem wordAt_run {t : TypeId} (b n cp : Nat) (s : Nat → Int) (i : Nat) (w : World) (hR : RowAt w b .u8 t n s) (hs : Byts n s) (hi : 4 * i + 4 ≤ n) (hn : n ≤ cp) (hc : cp ≤ 1000000) :
    Calls Try.prog 26 #[.slice (some ⟨b, 0, none⟩) n cp, .int .i64 (i : Int)] w fun e w' => e = .returned (.int .u32 (wrd s i)) ∧ Below w.heap.size w w' := by
  have c0 := hR.cell (4 * i) (by omega)
  have c1 := hR.cell (4 * i + 1) (by omega)
  have c2 := hR.cell (4 * i + 2) (by omega)
  have c3 := hR.cell (4 * i + 3) (by omega)
  have h0 := hs (4 * i) (by omega)
  have h1 := hs (4 * i + 1) (by omega)
  have h2 := hs (4 * i + 2) (by omega)
  have h3 := hs (4 * i + 3) (by omega)
  have HO := Hid.mk (or4 _ _ _ _ h0 h1 h2 h3)
  go_enter Try.func26, Try.ntmps26
  go_wp2
  go_region
  go_wp2
  go_ret
  exact ⟨congrArg (fun n => Ending.returned (Value.int .u32 n)) HO.out, (Below.refl _ _).drew⟩
/-- Word v, laid as word i of some bytes. -/
def putw (s : Nat → Int) (i : Nat) (v : Int) : Nat → Int := upd (upd (upd (upd s (4 * i) (v % 256)) (4 * i + 1) (v / 256 % 256)) (4 * i + 2) (v / 65536 % 256)) (4 * i + 3) (v / 16777216 % 256)
theorem putw_byts {n : Nat} {s : Nat → Int} {i : Nat} {v : Int} (h : Byts n s) : Byts n (putw s i v) := fun j hj => by
  have := h j hj
  unfold putw upd
  split
  · omega
  split
  · omega
  split
  · omega
  split <;> omega
set_option maxHeartbeats 1000000 in
theorem putWord_walk (b n cp : Nat) (i : Nat) (v : Int) (v0 v1 v2 v3 : Value) (w : World) (c0 : w.cell? ⟨b, 4 * i, none⟩ = some v0) (c1 : w.cell? ⟨b, 4 * i + 1, none⟩ = some v1) (c2 : w.cell? ⟨b, 4 * i + 2, none⟩ = some v2) (c3 : w.cell? ⟨b, 4 * i + 3, none⟩ = some v3)
    (f0 : w.frozen? ⟨b, 4 * i, none⟩ = false) (f1 : w.frozen? ⟨b, 4 * i + 1, none⟩ = false) (f2 : w.frozen? ⟨b, 4 * i + 2, none⟩ = false) (f3 : w.frozen? ⟨b, 4 * i + 3, none⟩ = false) (hv : W32 v) (hi : 4 * i + 4 ≤ n) (hn : n ≤ cp) (hc : cp ≤ 1000000) :
    Calls Try.prog 28 #[.slice (some ⟨b, 0, none⟩) n cp, .int .i64 (i : Int), .int .u32 v] w fun e w' => e = .returned (.tuple #[]) ∧
      w' = (((w.setCell ⟨b, 4 * i, none⟩ (.int .u8 (v % 256))).setCell ⟨b, 4 * i + 1, none⟩ (.int .u8 (v / 256 % 256))).setCell ⟨b, 4 * i + 2, none⟩ (.int .u8 (v / 65536 % 256))).setCell ⟨b, 4 * i + 3, none⟩ (.int .u8 (v / 16777216 % 256)) := by
  have HE : Hid (v / 16777216 % 256 = v / 16777216) := Hid.mk (by unfold W32 at hv; omega)
  unfold W32 at hv
  go_enter Try.func28, Try.ntmps28
  go_wp2
  refine bodyPost_end (results_none rfl _ _ _) rfl ?_
  rw [HE.out]
  exact ⟨rfl, rfl⟩
end Go.Proofs.Ytfgebcemdjplnaa
