/-
  Own text. Texts one behind the other: joined.
-/
import Derived.Test.YtfbeclleeehaaaaP6
import Derived.Lib.AppendStr
import Derived.Laws.BytesArg
namespace Go.Proofs.Ytfbeclleeehaaaa
open Go.RowKit Go.Proofs Go.Lib
/-- The texts of a row, one behind the other. -/
def joinB (ts : Nat → ByteArray) : Nat → ByteArray
  | 0 => ByteArray.empty
  | n + 1 => joinB ts n ++ ts n
theorem strCells_cat (s t : ByteArray) : strCells (s ++ t) = strCells s ++ strCells t := by
  simp [strCells, ByteArray.data_append]
theorem joinB_mono (ts : Nat → ByteArray) {i n : Nat} (h : i ≤ n) : (joinB ts i).size ≤ (joinB ts n).size := by
  induction h with
  | refl => exact Nat.le_refl _
  | step _ ih => refine Nat.le_trans ih ?_; rw [joinB, ByteArray.size_append]; omega
theorem strCells_nums (s : ByteArray) : strCells s = nums .u8 s.size (txt s) := by
  have h := nums_bytes (n := s.size) (f := txt s) (fun j _ => txt_b s j)
  rw [h]
  have e := congrArg (fun x => x.data.toList) (mkS_txt s)
  simp only [mkS] at e
  rw [e]
  rfl
/-- A slice of texts. -/
def Strs (w : World) (v : Value) (n : Nat) (ts : Nat → ByteArray) : Prop := ∃ a c, v = .slice a n c ∧ (0 < n → ∃ p, a = some p ∧ ∀ j, j < n → w.cell? (p.add j) = some (.string (ts j)))
theorem str_own {w : World} {v : Value} {s : ByteArray} {B : Nat} (h : w.ownsRow B 5 1 v s.size (strCells s)) : (convert 36 9 v).run Try.prog w = .ok (.string s) w := by
  by_cases h0 : 0 < s.size
  · rw [strCells_nums] at h
    obtain ⟨b, cp, rfl, _, _, hr⟩ := own_row h h0
    rw [str_back s.size b cp w s.size (txt s) hr (fun j _ => txt_b s j) rfl, mkS_txt]
  · have hz : s.size = 0 := by omega
    have hs : s = ByteArray.empty := by simpa using hz
    subst hs
    rcases h.2 with ⟨rfl, _⟩ | ⟨g, cap, cur, rfl, hb, hg, _⟩
    · exact run_convert_bytes_nil (P := Try.prog) w 36 5 Try.underlying36 Try.underlying5 0 0 9 Try.underlying9
    · have h := run_convert_bytes_back (P := Try.prog) w 36 9 5 ⟨g, 0, none⟩ cap [] Try.underlying36 Try.underlying5 Try.underlying9 (fun j hj => by simp at hj)
      exact h
theorem infoByte1 : ∃ i, Try.prog.info? 5 = some i ∧ i.zero = some (.int .u8 0) ∧ i.size = 1 ∧ i.bytes = 1 := by
  obtain ⟨i, h, a, b, c⟩ := info_parts infoByte
  exact ⟨i, h, a, b, c⟩
set_option maxHeartbeats 4000000 in
theorem joined_run (v : Value) (n : Nat) (ts : Nat → ByteArray) (w : World) (hv : Strs w v n ts) (hn : n < 4611686018427387904) (hs : (joinB ts n).size ≤ 140737488355328) :
    Calls Try.prog 11 #[v] w fun e w' => e = .returned (.string (joinB ts n)) ∧ Below w.heap.size w w' := by
  obtain ⟨a, c, rfl, hp⟩ := hv
  have HP := Hid.mk hp
  clear hp
  obtain ⟨inf, hi1, hi2, hi3, hi4⟩ := infoByte1
  have HI4 := Hid.mk (And.intro hi1 (And.intro hi2 (And.intro hi3 hi4)))
  clear hi1 hi2 hi3 hi4
  go_enter Try.func11, Try.ntmps11
  go_wp2_with fail
  go_loopg [3, 4] n (fun gm ov iv v => ∃ i : Nat, Hid (gm + i = n) ∧ iv = .int .i64 (i : Int) ∧ Hid (v.ownsRow w.heap.size 5 1 ov (joinB ts i).size (strCells (joinB ts i))) ∧ Below w.heap.size w v)
  case atStart => exact ⟨0, Hid.mk rfl, rfl, Hid.mk ⟨rfl, .inl ⟨rfl, rfl⟩⟩, Below.refl _ w⟩
  case round =>
    obtain ⟨i, HI, rfl, hO, hB⟩ := hrel
    have hin : i ≤ n := by have := HI.out; omega
    by_cases hil : i < n
    · obtain ⟨p, rfl, hc⟩ := HP.out (by omega)
      have hc0 := hc i hil
      have hc1 : wr.cell? (p.add i) = some (.string (ts i)) := (hB.cell (World.block_lt_of_cell? _ _ hc0)).trans hc0
      have hsz : (joinB ts i).size + (ts i).size ≤ 140737488355328 := by
        have h1 := joinB_mono ts (show i + 1 ≤ n from hil)
        rw [joinB, ByteArray.size_append] at h1
        omega
      clear hc0
      go_wp2_with (at_builtin; refine wpList_append_own_string _ rfl _ _ 36 9 (by rfl) w.heap.size 5 inf Try.underlying36 Try.underlying9 HI4.out.1 HI4.out.2.1 HI4.out.2.2.1 HI4.out.2.2.2 _ _ _ (by rfl) hO.out (ts i) (by rfl) (by unfold maxLen; omega) hsz hB.size ?_; intro vb v4 h4 hg4 _; refine Hid.out ?_)
      have hB4 := hB.trans (Below.grow hg4 hB.size (own_base hO.out))
      rw [← strCells_cat, ← ByteArray.size_append] at h4
      refine Hid.mk ?_
      go_wp2_with fail
      go_roundg (n - (i + 1))
      case rel => exact ⟨i + 1, Hid.mk (by omega), by go_num, Hid.mk h4, hB4⟩
      case measure => have := HI.out; omega
    · have hi2 : i = n := by omega
      subst hi2
      have hcv := str_own hO.out
      go_wp2_with fail
      go_ret
      exact ⟨rfl, hB⟩
end Go.Proofs.Ytfbeclleeehaaaa
