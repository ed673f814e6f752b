/-
  Own text. What word and bytes of the document's answer give.
-/
import Derived.Test.YtfgebcemdjplnaaB2
namespace Go.Proofs.Ytfgebcemdjplnaa
open Go.RowKit Go.Proofs
set_option maxHeartbeats 1000000 in
theorem rword_run {t : TypeId} (b n cp : Nat) (s : Nat → Int) (i : Nat) (w : World) (hR : RowAt w b .u8 t n s) (hs : Byts n s) (hi : 4 * i + 4 ≤ n) (hn : n ≤ 1000000) :
    Calls Try.prog 33 #[.slice (some ⟨b, 0, none⟩) n cp, .int .i64 (4 * (i : Int))] w fun e w' => e = .returned (.int .i64 (wrd s i)) ∧ Below w.heap.size w w' := by
  have c0 := hR.cell (4 * i) (by omega)
  have c1 := hR.cell (4 * i + 1) (by omega)
  have c2 := hR.cell (4 * i + 2) (by omega)
  have c3 := hR.cell (4 * i + 3) (by omega)
  have h0 := hs (4 * i) (by omega)
  have h1 := hs (4 * i + 1) (by omega)
  have h2 := hs (4 * i + 2) (by omega)
  have h3 := hs (4 * i + 3) (by omega)
  clear hR hs
  go_enter Try.func33, Try.ntmps33
  go_wp2
  go_region
  go_wp2
  go_ret
  exact ⟨rfl, (Below.refl _ _).drew⟩
/-- The four bytes of a word. -/
def b4 (v : Int) (i : Nat) : Int := if i = 0 then v % 256 else if i = 1 then v / 256 % 256 else if i = 2 then v / 65536 % 256 else v / 16777216 % 256
set_option maxHeartbeats 1000000 in
theorem rbytes_run (v : Int) (w : World) (hv : W32 v) :
    Calls Try.prog 22 #[.int .i64 v] w fun e w' => e = .returned (.slice (some ⟨w.heap.size, 0, none⟩) 4 4) ∧ ArrAt w' w.heap.size .u8 5 4 (b4 v) ∧ Below w.heap.size w w' := by
  unfold W32 at hv
  have HW : #[Value.int .u8 (v % 256), .int .u8 (v / 256 % 256), .int .u8 (v / 65536 % 256), .int .u8 (v / 16777216)] = WA .u8 4 (b4 v) := by
    have h : v / 16777216 % 256 = v / 16777216 := by omega
    conv => lhs; rw [← h]
    rfl
  have e1 : v.tdiv 256 = v / 256 := Int.tdiv_eq_ediv_of_nonneg hv.1
  have e2 : v.tdiv 65536 = v / 65536 := Int.tdiv_eq_ediv_of_nonneg hv.1
  have e3 : v.tdiv 16777216 = v / 16777216 := Int.tdiv_eq_ediv_of_nonneg hv.1
  go_enter Try.func22, Try.ntmps22
  go_wp2
  go_ret
  exact ⟨rfl, heap_alloc_new w _, (Below.refl _ w).alloc (Nat.le_refl _) _⟩
end Go.Proofs.Ytfgebcemdjplnaa
