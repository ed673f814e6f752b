/-
  Own text. Steps for the law PolyCuts.
-/
import Derived.Test.YtfbeclleeehaaaaQ2a
import Derived.Test.YtfbeclleeehaaaaQ1
import Derived.Test.YtfbeclleeehaaaaP9
namespace Go.Proofs.Ytfbeclleeehaaaa
open Go.RowKit Go.Proofs
theorem neq_WA {a : Act} {o : Oper} {w : World} {x y : Operand} {t u : TypeId} {n : Nat} (ho : o.op = .binOp .neq t x y u) (ht : Try.prog.underlying t = some (.array n 5)) (hg : Try.prog.eqGuardType Try.prog.depth t = false) {s : Nat → Int} (hx : a.eval x = .agg (WA .u8 n s)) (hy : a.eval y = .agg (WA .u8 n s)) :
    (execOp a.eval o).run Try.prog w = .ok (.value (.bool false)) w := by
  unfold execOp
  simp only [ho, hx, hy, Sem.run_bind, run_eqGuard_agg w .neq t x y _ _ hg, Result.andThen_ok, run_neq_struct, equal_WA ht s 9998 w, Sem.run_pure]
  rfl
theorem sl32e (b : Nat) (w : World) : (Instr.sliceAt 22 (.pointer (some ⟨b, 0, none⟩)) (some (.int .i64 16)) none none).run Try.prog w = .ok (.slice (some ⟨b, 16, none⟩) 16 16) w := by simp [go_sem]
theorem sl16z (b : Nat) (w : World) : (Instr.sliceAt 23 (.pointer (some ⟨b, 0, none⟩)) none none none).run Try.prog w = .ok (.slice (some ⟨b, 0, none⟩) 16 16) w := by simp [go_sem]
theorem str_backO (b off n : Nat) (w : World) (f : Nat → Int) (hf : Byts n f) (hc : ∀ j, j < n → w.cell? ⟨b, off + j, none⟩ = some (.int .u8 (f j))) {cp : Nat} : (convert 36 9 (.slice (some ⟨b, off, none⟩) n cp)).run Try.prog w = .ok (.string (mkS n f)) w := by
  have h := run_convert_bytes_back (P := Try.prog) w 36 9 5 ⟨b, off, none⟩ cp (bytesL n f) Try.underlying36 Try.underlying5 Try.underlying9 (fun j hj => by
    rw [bytesL_len] at hj
    rw [Addr.add_lit, hc j hj]
    have := hf j hj
    simp [bytesL]
    omega)
  rw [bytesL_len] at h
  exact h
theorem zk_facts {key : Nat → Int} (hk : Byts 32 key) (f : Nat → Int) (L : Nat) : Byts 32 (over (fun _ => 0) 16 16 fun q => key (16 + q)) ∧ ∀ i, i < 16 → digN (markN (over (fun _ => 0) 16 16 fun q => key (16 + q)) f L) i = key (16 + i) := by
  have hb : Byts 32 (over (fun _ => 0) 16 16 fun q => key (16 + q)) := fun i hi => by
    unfold over
    split
    · exact hk (16 + (i - 16)) (by omega)
    · show 0 ≤ (0 : Int) ∧ (0 : Int) < 256
      omega
  refine ⟨hb, fun i hi => ?_⟩
  rw [mark_zero _ f L (fun j hj => by unfold over; rw [if_neg (by omega)]) hb i hi]
  unfold over
  rw [if_pos (by omega), Nat.add_sub_cancel_left]
theorem join_cut (s : ByteArray) (i : Nat) (h : i ≤ s.size) : joinB (two2 (s.extract 0 i) (s.extract i s.size)) 2 = s := by
  rw [join2]
  have h1 := take_size s i h
  have h2 := extract_size s i
  have e : (s.extract 0 i ++ s.extract i s.size).size = s.size := by rw [ByteArray.size_append, h1, h2]; omega
  rw [← mkS_txt (s.extract 0 i ++ s.extract i s.size), e]
  conv => rhs; rw [← mkS_txt s]
  refine mkS_congr (fun j hj => ?_)
  rw [txt_append, h1]
  by_cases hji : j < i
  · rw [if_pos hji, txt_take s i j hji h]
  · rw [if_neg hji, txt_extract s i (j - i) (by omega)]
    congr 1
    omega
/-- The key with the first j bytes of its second half more by c. -/
def kpart (key : Nat → Int) (c : Int) (j x : Nat) : Int := if 16 ≤ x ∧ x < 16 + j then dgc (fun q => key (16 + q)) c (x - 16) else key x
theorem kpart_step (key : Nat → Int) (c : Int) (j : Nat) : upd (kpart key c j) (16 + j) (dgc (fun q => key (16 + q)) c j) = kpart key c (j + 1) := by
  funext x
  unfold upd kpart
  by_cases e : x = 16 + j
  · subst e
    rw [if_pos rfl, if_pos (by omega), Nat.add_sub_cancel_left]
  · rw [if_neg e]
    by_cases h : 16 ≤ x ∧ x < 16 + j
    · rw [if_pos h, if_pos (by omega)]
    · rw [if_neg h, if_neg (by omega)]
theorem kpart_end (key : Nat → Int) (c : Int) (x : Nat) (h : x < 32) : kpart key c 16 x = keyMore key c x := by
  unfold kpart keyMore
  by_cases h2 : x < 16
  · rw [if_pos h2, if_neg (by omega)]
  · rw [if_neg h2, if_pos (by omega)]
theorem keyMore_b {key : Nat → Int} (hk : Byts 32 key) (c : Int) : Byts 32 (keyMore key c) := fun i hi => by
  unfold keyMore
  split
  · exact hk i hi
  · exact dgc_b _ _ _
theorem markN_congr {k k' f : Nat → Int} {n : Nat} (h : ∀ i, i < 32 → k i = k' i) : markN k f n = markN k' f n := by
  unfold markN
  rw [rN_congr (fun i hi => h i (by omega)), show sN k = sN k' from dval_congr (fun i hi => h (16 + i) (by omega))]
end Go.Proofs.Ytfbeclleeehaaaa
