/-
  Own text. What (*strings.Builder).Write does to a builder that a call has made itself; texts as numbers.
-/
import Derived.Test.YtfgebcemdjplnaaD2
import Derived.Test.YtfgebcemdjplnaaS1
namespace Go.Proofs.Ytfgebcemdjplnaa
open Go.RowKit Go.Proofs
/-- A builder that holds n bytes. -/
def Bld (w : World) (B b n : Nat) (f : Nat → Int) : Prop := Lib.BuilderAt 56 5 B b (.pointer (some ⟨b, 0, none⟩)) (nums .u8 n f) w
theorem Bld.kept {w w' : World} {B b n : Nat} {f : Nat → Int} (h : Bld w B b n f) (hb : Below w.heap.size w w') : Bld w' B b n f := by
  obtain ⟨hB, v, hk, ho, hn⟩ := h
  exact ⟨hB, v, (hb.block b (heap_lt hk)).trans hk, own_kept ho hb, hn⟩
theorem Bld.congr {w : World} {B b n : Nat} {f g : Nat → Int} (h : Bld w B b n f) (e : ∀ i, i < n → f i = g i) : Bld w B b n g := by
  unfold Bld; rw [← nums_congr e]; exact h
theorem Bld.lt {w : World} {B b n : Nat} {f : Nat → Int} (h : Bld w B b n f) : b < w.heap.size := by
  obtain ⟨_, v, hk, _⟩ := h
  exact heap_lt hk
theorem neB5 : 56 ≠ 5 := by decide
set_option maxHeartbeats 1000000 in
theorem write_run (B b n m c bd off : Nat) (f r : Nat → Int) (w : World) (h : Bld w B b n f) (hc : ∀ j, j < m → w.cell? ⟨bd, off + j, none⟩ = some (.int .u8 (r j))) (hlen : n + m ≤ 140737488355328) (hBw : B ≤ w.heap.size) :
    Calls Try.prog 31 #[.pointer (some ⟨b, 0, none⟩), .slice (some ⟨bd, off, none⟩) m c] w fun e w' => e = .returned (.tuple #[.int .i64 m, .nilIface]) ∧ Bld w' B b (n + m) (cat n f r) ∧ Below B w w' := by
  obtain ⟨i0, hi, hz0, hz1, hz2⟩ := info_parts infoByte
  obtain ⟨hB, v, hbk, hown, hne⟩ := h
  rw [nums_len] at hown
  have c0 : w.cell? ⟨b, 0, none⟩ = some (.pointer (some ⟨b, 0, none⟩)) := by rw [Lib.cell_of_heap hbk]; rfl
  have c1 : w.cell? ⟨b, 1, none⟩ = some v := by rw [Lib.cell_of_heap hbk]; rfl
  have HC : Hid (∀ j u, (nums .u8 m r)[j]? = some u → w.cell? ((⟨bd, off, none⟩ : Addr).add j) = some u) := Hid.mk (fun j u hj => by
    obtain ⟨hj2, rfl⟩ := nums_get hj
    rw [Addr.add_lit]
    exact hc j hj2)
  clear hc
  go_enter Try.func31, Try.ntmps31
  go_wp2_with fail
  refine (copyCheck_used b w c0).mono ?_
  rintro e w1 ⟨rfl, rfl⟩
  go_wp2_with (at_builtin; refine wpList_append_own w1 rfl _ _ 32 rfl B 5 i0 (.int .u8 0) 1 1 Try.underlying32 hi hz0 hz1 hz2 rfl (by decide) _ n _ rfl hown ⟨bd, off, none⟩ m c (nums .u8 m r) rfl (by rw [nums_len]; omega) HC.out nums_one ?c3 ?c4 hBw ?_)
  case c3 => unfold maxLen; omega
  case c4 => omega
  intro v' w2 hown' hgrow _
  clear HC
  rw [nums_cat] at hown'
  have hlt : b < w1.heap.size := heap_lt hbk
  have hb2 : w2.heap[b]? = some (.cells #[.pointer (some ⟨b, 0, none⟩), v] 56 (0, 0)) := by
    rw [hgrow.block b hlt (fun e => hne e.symm)]
    exact hbk
  have d0 : w2.cell? ⟨b, 0, none⟩ = some (.pointer (some ⟨b, 0, none⟩)) := by rw [Lib.cell_of_heap hb2]; rfl
  have d1 : w2.cell? ⟨b, 1, none⟩ = some v := by rw [Lib.cell_of_heap hb2]; rfl
  have f1 : w2.frozen? ⟨b, 1, none⟩ = false := Lib.frozen_of_heap hb2 1
  obtain ⟨ao, n', cap, rfl⟩ : ∃ ao n' cap, v' = .slice ao n' cap := by
    rcases hown'.2 with ⟨hv, _⟩ | ⟨g, cap, cur, hv, _⟩
    · exact ⟨_, _, _, hv⟩
    · exact ⟨_, _, _, hv⟩
  go_wp2
  exact bodyPost_ret (v := .tuple #[.int .i64 m, .nilIface]) (by simp [results, Try.results31, go_sem]) rfl
    ⟨rfl, Lib.BuilderAt.put hB hb2 (by rw [nums_len]; exact hown') neB5, (Below.grow hgrow hBw (own_base hown)).setCell (p := ⟨b, 1, none⟩) hB _⟩
/-- Byte j of a text. -/
def txt (s : ByteArray) (j : Nat) : Int := ((s.data.toList.getD j 0).toNat : Int)
theorem txt_b (s : ByteArray) (j : Nat) : 0 ≤ txt s j ∧ txt s j < 256 := by
  unfold txt
  have := (s.data.toList.getD j 0).toNat_lt
  omega
def bytesL (n : Nat) (f : Nat → Int) : List UInt8 := (List.range n).map fun j => UInt8.ofNat (f j).toNat
/-- The text of these bytes. -/
def mkS (n : Nat) (f : Nat → Int) : ByteArray := ⟨(bytesL n f).toArray⟩
theorem mkS_size (n : Nat) (f : Nat → Int) : (mkS n f).size = n := by
  show (bytesL n f).toArray.size = n
  simp [bytesL]
theorem bytesL_len (n : Nat) (f : Nat → Int) : (bytesL n f).length = n := by simp [bytesL]
theorem txt_mkS {n : Nat} {f : Nat → Int} {j : Nat} (hf : 0 ≤ f j ∧ f j < 256) (h : j < n) : txt (mkS n f) j = f j := by
  unfold txt mkS bytesL
  simp [h]
  omega
theorem mkS_congr {n : Nat} {f g : Nat → Int} (h : ∀ j, j < n → f j = g j) : mkS n f = mkS n g := by
  unfold mkS bytesL
  congr 2
  exact List.map_congr_left (fun j hj => by rw [h j (List.mem_range.1 hj)])
theorem mkS_txt (s : ByteArray) : mkS s.size (txt s) = s := by
  unfold mkS bytesL
  obtain ⟨d⟩ := s
  congr 1
  apply Array.ext
  · simp
    rfl
  · intro i h1 h2
    simp [txt, h2]
theorem nums_bytes {n : Nat} {f : Nat → Int} (hf : ∀ j, j < n → 0 ≤ f j ∧ f j < 256) : nums .u8 n f = Lib.byteCells (bytesL n f) := by
  unfold nums Lib.byteCells bytesL
  rw [List.map_map]
  exact List.map_congr_left (fun j hj => by
    have := hf j (List.mem_range.1 hj)
    simp
    omega)
theorem string_run (B b n : Nat) (f : Nat → Int) (w : World) (h : Bld w B b n f) (hf : ∀ j, j < n → 0 ≤ f j ∧ f j < 256) (hBw : B ≤ w.heap.size) :
    Calls Try.prog 32 #[.pointer (some ⟨b, 0, none⟩)] w fun e w' => e = .returned (.string (mkS n f)) ∧ Below B w w' :=
  Builder_String_any B b (bytesL n f) w (.inr (by rw [← nums_bytes hf]; exact h)) hBw
theorem grow_run (B b n : Nat) (w : World) (hB : B ≤ b) (hbk : w.heap[b]? = some (.cells #[.pointer none, .slice none 0 0] 56 (0, 0))) (hBw : B ≤ w.heap.size) (hn : n ≤ 281474976710656) :
    Calls Try.prog 29 #[.pointer (some ⟨b, 0, none⟩), .int .i64 n] w fun e w' => e = .returned (.tuple #[]) ∧ Bld w' B b 0 (fun _ => 0) ∧ Below B w w' := Builder_Grow_fresh B b n w hB hbk hBw hn
end Go.Proofs.Ytfgebcemdjplnaa
