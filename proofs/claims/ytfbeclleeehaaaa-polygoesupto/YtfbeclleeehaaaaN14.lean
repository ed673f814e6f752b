/-
  Own text. What Write of package poly does to a MAC: a contract over the translation.
-/
import Derived.Test.YtfbeclleeehaaaaN12
namespace Go.Proofs.Ytfbeclleeehaaaa
open Go.RowKit Go.Proofs
theorem txt_append (A B : ByteArray) (j : Nat) : txt (A ++ B) j = if j < A.size then txt A j else txt B (j - A.size) := by
  unfold txt
  rw [ByteArray.data_append, Array.toList_append]
  have hA : A.data.toList.length = A.size := by simp
  simp only [List.getD_eq_getElem?_getD]
  by_cases h : j < A.size
  · rw [if_pos h, List.getElem?_append_left (by rw [hA]; exact h)]
  · rw [if_neg h, List.getElem?_append_right (by rw [hA]; omega), hA]
/-- Bytes behind bytes, behind bytes. -/
theorem cat_join (n : Nat) (f : Nat → Int) (A B : ByteArray) : cat (n + A.size) (cat n f (txt A)) (txt B) = cat n f (txt (A ++ B)) := by
  funext j
  unfold cat
  rw [txt_append]
  by_cases h1 : j < n + A.size
  · rw [if_pos h1]
    by_cases h2 : j < n
    · rw [if_pos h2, if_pos h2]
    · rw [if_neg h2, if_neg h2, if_pos (by omega)]
  · rw [if_neg h1, if_neg (by omega), if_neg (by omega)]
    congr 1
    omega
theorem txt_empty (j : Nat) : txt ByteArray.empty j = 0 := by simp [txt]
theorem Strs.touch {w w' : World} {v : Value} {n : Nat} {ts : Nat → ByteArray} {b : Nat} (h : Strs w v n ts) (hb : ∀ p n' c, v = .slice (some p) n' c → p.block ≠ b) (ht : Touch (fun x => x = b) w w') : Strs w' v n ts := by
  obtain ⟨a, c, rfl, hp⟩ := h
  refine ⟨a, c, rfl, fun hn => ?_⟩
  obtain ⟨p, rfl, hc⟩ := hp hn
  refine ⟨p, rfl, fun j hj => ?_⟩
  have h0 := hc j hj
  have hl := World.block_lt_of_cell? _ _ h0
  have hpb : (p.add j).block = p.block := by unfold Addr.add; split <;> rfl
  have e := ht.block (p.add j).block hl (fun e => hb p n c rfl (by rw [← hpb]; exact e))
  rw [← h0]
  exact World.cell?_of_block (w := w) e
set_option maxHeartbeats 4000000 in
theorem Write_run (b : Nat) (key f : Nat → Int) (n0 : Nat) (v : Value) (cnt : Nat) (ts : Nat → ByteArray) (w : World) (hM : MacN w b key f n0) (hv : ∀ w', Touch (fun x => x = b) w w' → Strs w' v cnt ts) (hn : cnt < 4611686018427387904) :
    Calls Try.prog 13 #[.pointer (some ⟨b, 0, none⟩), v] w fun e w' => e = .returned (.tuple #[]) ∧ MacN w' b key (cat n0 f (txt (joinB ts cnt))) (n0 + (joinB ts cnt).size) ∧ Touch (fun x => x = b) w w' := by
  obtain ⟨a, c, rfl, hp⟩ := hv w (Touch.refl _ _)
  have HV := Hid.mk hv
  clear hv hp
  go_enter Try.func13, Try.ntmps13
  go_wp2_with fail
  go_loopg [10] cnt (fun gm iv v => ∃ i : Nat, Hid (gm + i = cnt) ∧ iv = .int .i64 (i : Int) ∧ MacN v b key (cat n0 f (txt (joinB ts i))) (n0 + (joinB ts i).size) ∧ Touch (fun x => x = b) w v)
  case atStart => exact ⟨0, Hid.mk rfl, rfl, hM.congr (fun i hi => by unfold cat; rw [if_pos hi]), Touch.refl _ _⟩
  case round =>
    clear hM
    obtain ⟨i, HI, rfl, hM, ht⟩ := hrel
    have hin : i ≤ cnt := by have := HI.out; omega
    by_cases hil : i < cnt
    · obtain ⟨a', c', e, hp⟩ := HV.out wr ht
      simp only [Value.slice.injEq] at e
      obtain ⟨rfl, _, rfl⟩ := e
      obtain ⟨p, rfl, hc⟩ := hp (by omega)
      have hc1 := hc i hil
      clear hc hp
      go_wp2_with fail
      refine (add_run b key _ _ (ts i) wr hM).mono ?_
      rintro e v1 ⟨rfl, hM1, ht1⟩
      rw [cat_join, Nat.add_assoc, ← ByteArray.size_append] at hM1
      go_wp2_with fail
      go_roundg (cnt - (i + 1))
      case rel => exact ⟨i + 1, Hid.mk (by omega), by go_num, hM1, ht.trans ht1⟩
      case measure => have := HI.out; omega
    · have hi2 : i = cnt := by omega
      subst hi2
      go_wp2_with fail
      go_end0
      exact ⟨rfl, hM, ht⟩
theorem Write_nil (v : Value) (w : World) : Calls Try.prog 13 #[.pointer none, v] w fun e w' => e = .returned (.tuple #[]) ∧ w' = w := by
  go_enter Try.func13, Try.ntmps13
  go_wp2_with fail
  exact bodyPost_ret (results_none Try.results13 _ _ _) rfl ⟨rfl, rfl⟩
end Go.Proofs.Ytfbeclleeehaaaa
