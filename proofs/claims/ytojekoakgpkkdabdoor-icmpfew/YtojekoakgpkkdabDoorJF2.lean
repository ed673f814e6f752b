/-
  Own text. The program's own checksum: it is the number that the document's sum is.
-/
import Derived.Laws.Bits64b
import Derived.Test.YtojekoakgpkkdabDoorJF1
import Derived.Deep.CutBlock
import Derived.Deep.DeepCutAuto
import Derived.ChangeKeysEq
import Derived.Laws.StructEq
import Derived.Tactics
namespace Go.Proofs.YtojekoakgpkkdabDoor
open Go.RowKit Go.Proofs
set_option maxRecDepth 100000
section
variable {a : Act} {o : Oper} {w : World} {x y : Operand} {t : TypeId}
theorem exec_shr16 (ho : o.op = .binOp .shr 79 x y t) {i q : Nat} (hx : a.eval x = .int .u64 (i : Int)) (hy : a.eval y = .int .u64 16) (hq : i / 65536 = q) : (execOp a.eval o).run Tryd.prog w = .ok (.value (.int .u64 (q : Int))) w := by
  subst hq
  refine exec_bin2 ho hx hy rfl ?_
  simp [go_sem]
theorem exec_shl8U (ho : o.op = .binOp .shl 79 x y t) {i q : Nat} (hx : a.eval x = .int .u64 (i : Int)) (hy : a.eval y = .int .u64 8) (hq : i * 256 = q) (hl : q < 18446744073709551616) : (execOp a.eval o).run Tryd.prog w = .ok (.value (.int .u64 (q : Int))) w := by
  subst hq
  refine exec_bin2 ho hx hy rfl ?_
  have e2 : IntKind.u64.wrap ((i : Int) * 256) = ((i * 256 : Nat) : Int) := by rw [IntKind.wrap_u64]; omega
  simp [go_sem, e2]
theorem exec_andU (ho : o.op = .binOp .and 79 x y 79) {i q : Nat} (hx : a.eval x = .int .u64 (i : Int)) (hy : a.eval y = .int .u64 65535) (hl : i < 18446744073709551616) (hq : i % 65536 = q) : (execOp a.eval o).run Tryd.prog w = .ok (.value (.int .u64 (q : Int))) w := by
  subst hq
  refine exec_bin2 ho hx hy rfl ?_
  have e := bits_and_u64_nat i 65535 hl (by decide)
  have e2 : i &&& 65535 = i % 65536 := Nat.and_two_pow_sub_one_eq_mod i 16
  rw [e2] at e
  have e3 : bits .and .u64 (i : Int) 65535 = ((i % 65536 : Nat) : Int) := e
  simp [go_sem, e3]
theorem exec_orU8 (ho : o.op = .binOp .or 79 x y 79) {i c q : Nat} (hx : a.eval x = .int .u64 ((i * 256 : Nat) : Int)) (hy : a.eval y = .int .u64 (c : Int)) (hc : c < 256) (hq : i * 256 + c = q) (hl : q < 18446744073709551616) : (execOp a.eval o).run Tryd.prog w = .ok (.value (.int .u64 (q : Int))) w := by
  subst hq
  refine exec_bin2 ho hx hy rfl ?_
  have e := bits_or_u64_nat (i * 256) c (by omega) (by omega)
  have e2 : i * 256 ||| c = i * 256 + c := by
    have := Nat.two_pow_add_eq_or_of_lt (show c < 2 ^ 8 from hc) i
    rw [Nat.mul_comm i 256]
    exact this.symm
  rw [e2] at e
  have e3 : bits .or .u64 ((i : Int) * 256) (c : Int) = (i : Int) * 256 + (c : Int) := e
  simp [go_sem, e3]
theorem exec_cvUI (ho : o.op = .convert 79 3 x) {m : Nat} (hx : a.eval x = .int .u64 (m : Int)) (h1 : m < 9223372036854775808) : (execOp a.eval o).run Tryd.prog w = .ok (.value (.int .i64 (m : Int))) w := by
  have e : IntKind.i64.wrap (m : Int) = (m : Int) := by rw [IntKind.wrap_i64]; omega
  unfold execOp
  simp only [ho, hx]
  simp [go_sem, e]
end
theorem joinB_at (ts : Nat → ByteArray) {i cnt : Nat} (hi : i < cnt) {j : Nat} (hj : j < (ts i).size) : txt (joinB ts cnt) ((joinB ts i).size + j) = txt (ts i) j := by
  induction cnt with
  | zero => omega
  | succ n ih =>
    rw [joinB, txt_append]
    by_cases e : i = n
    · subst e
      rw [if_neg (by omega), Nat.add_sub_cancel_left]
    · have h1 := joinB_mono ts (show i + 1 ≤ n by omega)
      rw [joinB, ByteArray.size_append] at h1
      rw [if_pos (by omega)]
      exact ih (by omega)
theorem cano_small {s : Int} (h0 : 0 ≤ s) (h1 : s ≤ 65535) : cano s = s := by
  unfold cano
  split <;> omega
theorem cano_fold {s : Nat} (h : 65535 < s) : cano ((s / 65536 + s % 65536 : Nat) : Int) = cano (s : Int) := by
  unfold cano
  rw [if_neg (by omega), if_neg (by omega)]
  omega
theorem sw_le {f : Nat → Int} (h : ∀ i, 0 ≤ f i ∧ f i < 256) : ∀ n : Nat, sw f n ≤ 65280 * (n : Int)
  | 0 => by unfold sw; omega
  | n + 1 => by
    have ih := sw_le h n
    have := h n
    unfold sw
    split <;> omega
set_option maxHeartbeats 4000000 in
theorem folded_run (s : Nat) (w : World) (hs : s < 9223372036854775808) : Calls Tryd.prog 54 #[.int .u64 (s : Int)] w fun e w' => e = .returned (.int .i64 (cano (s : Int))) ∧ w' = w := by
  go_enter Tryd.func54, Tryd.ntmps54
  go_wp2_with fail
  go_loopg [0] s (fun gm s0 z => ∃ k : Nat, gm = k ∧ k ≤ s ∧ s0 = .int .u64 (k : Int) ∧ Hid (cano (k : Int) = cano (s : Int)) ∧ z = w)
  case atStart => exact ⟨s, rfl, by omega, rfl, Hid.mk rfl, rfl⟩
  case round =>
    obtain ⟨k, hgm, hk, rfl, HC, hz⟩ := hrel
    subst hz
    by_cases h : 65535 < k
    · have hi : (65535 : Int) < (k : Int) := by omega
      obtain ⟨p, hp⟩ : ∃ p, k / 65536 = p := ⟨_, rfl⟩
      obtain ⟨r, hr⟩ : ∃ r, k % 65536 = r := ⟨_, rfl⟩
      have HE : Hid (cano ((p + r : Nat) : Int) = cano (s : Int)) := Hid.mk (by rw [← hp, ← hr, cano_fold h]; exact HC.out)
      have HP := Hid.mk (And.intro hp hr)
      have h3 : p + r < k := by omega
      clear hp hr HC
      go_wp2_with (first | (refine wl_value rfl (exec_shr16 (i := k) rfl (by rfl) (by rfl) HP.out.1) ?_) | (refine wl_value rfl (exec_andU (i := k) rfl (by rfl) (by rfl) (by omega) HP.out.2) ?_) | (refine wl_value rfl (exec_addU (i := p) (m := r) rfl (by rfl) (by rfl) rfl (by omega)) ?_))
      go_roundg (p + r)
      case rel => exact ⟨p + r, rfl, by omega, rfl, HE, rfl⟩
      case measure => omega
    · have hi : ¬ (65535 : Int) < (k : Int) := by omega
      have HE : Hid (cano (s : Int) = (k : Int)) := Hid.mk (by rw [← HC.out]; exact cano_small (by omega) (by omega))
      go_wp2_with (refine wl_value rfl (exec_cvUI (m := k) rfl (by rfl) (by omega)) ?_)
      go_ret
      exact ⟨by rw [HE.out]; rfl, rfl⟩
theorem weighed_run (b : Nat) (odd : Bool) (w : World) (hb : b < 256) : Calls Tryd.prog 53 #[.int .u8 (b : Int), .bool odd] w fun e w' => e = .returned (.int .u64 (((if odd = true then b else b * 256 : Nat)) : Int)) ∧ w' = w := by
  go_enter Tryd.func53, Tryd.ntmps53
  cases odd
  · go_wp2_with (first | (refine wl_value rfl (exec_cv8U (m := b) rfl (by rfl) hb) ?_) | (refine wl_value rfl (exec_shl8U (i := b) rfl (by rfl) (by rfl) rfl (by omega)) ?_))
    go_ret
    exact ⟨rfl, rfl⟩
  · go_wp2_with (refine wl_value rfl (exec_cv8U (m := b) rfl (by rfl) hb) ?_)
    go_ret
    exact ⟨rfl, rfl⟩
set_option maxHeartbeats 4000000 in
theorem Sum_run (v : Value) (n : Nat) (ts : Nat → ByteArray) (w : World) (hv : Strs w v n ts) (hn : n < 4611686018427387904) (hs : (joinB ts n).size ≤ 140737488355328) :
    Calls Tryd.prog 41 #[v] w fun e w' => e = .returned (.int .i64 (sumT (joinB ts n))) ∧ w' = w := by
  obtain ⟨a, c, rfl, hp⟩ := hv
  have HP := Hid.mk hp
  clear hp
  have HA := Hid.mk (fun (i : Nat) (hi : i < n) (j : Nat) (hj : j < (ts i).size) => joinB_at ts hi hj)
  have HZ : Hid (∀ i, i < n → (joinB ts i).size + (ts i).size ≤ (joinB ts n).size) := Hid.mk (fun i hi => by
    have h1 := joinB_mono ts (show i + 1 ≤ n from hi)
    rw [joinB, ByteArray.size_append] at h1
    exact h1)
  have HSU : Hid (∀ i, (joinB ts (i + 1)).size = (joinB ts i).size + (ts i).size) := Hid.mk (fun i => by rw [joinB, ByteArray.size_append])
  have HEN : Hid ((joinB ts n).size = (joinB ts n).size) := Hid.mk rfl
  have hP0 : (joinB ts 0).size = 0 := rfl
  have HT : Hid (sumT (joinB ts n) = 65535 - cano (sw (txt (joinB ts n)) (joinB ts n).size)) := Hid.mk rfl
  generalize hTe : joinB ts n = T at *
  obtain ⟨P, hPe⟩ : ∃ P : Nat → Nat, P = fun i => (joinB ts i).size := ⟨_, rfl⟩
  have HPn : Hid (P n = T.size) := Hid.mk (by rw [hPe, ← hTe])
  have HA : Hid (∀ i, i < n → ∀ j, j < (ts i).size → txt T (P i + j) = txt (ts i) j) := Hid.mk (by rw [hPe]; exact HA.out)
  have HZ : Hid (∀ i, i < n → P i + (ts i).size ≤ T.size) := Hid.mk (by rw [hPe]; exact HZ.out)
  have HSU : Hid (∀ i, P (i + 1) = P i + (ts i).size) := Hid.mk (by rw [hPe]; exact HSU.out)
  have hP0 : P 0 = 0 := by rw [hPe]; rfl
  have HSL : Hid (∀ k : Nat, k ≤ T.size → sw (txt T) k < 9223372036854775808) := Hid.mk (fun k hk => by
    have := sw_le (fun i => txt_b T i) k
    omega)
  clear hTe hPe HEN
  have HS0 : Hid (∀ k : Nat, sw (txt T) (k + 1) = sw (txt T) k + (if k % 2 = 0 then 256 * txt T k else txt T k)) := Hid.mk (fun k => rfl)
  go_enter Tryd.func41, Tryd.ntmps41
  go_wp2_with fail
  go_loopg [3, 4, 10] n (fun gm s3 s4 s10 z => ∃ (i M : Nat) (d : Bool), Hid (gm + i = n) ∧ s10 = .int .i64 (i : Int) ∧ s3 = .int .u64 (M : Int) ∧ s4 = .bool d ∧ Hid ((M : Int) = sw (txt T) (P i) ∧ d = decide (P i % 2 = 1)) ∧ z = w)
  case atStart => exact ⟨0, 0, false, Hid.mk rfl, rfl, rfl, rfl, Hid.mk (by rw [hP0]; exact ⟨rfl, rfl⟩), rfl⟩
  case round =>
    obtain ⟨i, M, d, HI, rfl, rfl, rfl, HM, hz⟩ := hrel
    have hz2 := hz.symm
    subst hz2
    clear hz
    have hin : i ≤ n := by have := HI.out; omega
    by_cases hil : i < n
    · have hili : (i : Int) < (n : Int) := by omega
      obtain ⟨p, rfl, hc⟩ := HP.out (by omega)
      have hc0 := hc i hil
      clear hc
      have HAi : Hid (∀ j, j < (ts i).size → txt T (P i + j) = txt (ts i) j) := Hid.mk (HA.out i hil)
      have hZi := HZ.out i hil
      have HSi := Hid.mk (HSU.out i)
      generalize ts i = S at *
      obtain ⟨N, hN⟩ : ∃ N, S.size = N := ⟨_, rfl⟩
      have HN := Hid.mk hN
      rw [hN] at hZi
      obtain ⟨K, hK⟩ : ∃ K, P i = K := ⟨_, rfl⟩
      rw [hK] at HM hZi
      have HK := Hid.mk hK
      clear hK
      go_wp2_with fail
      clear hN
      have HGK := Hid.mk HI.out
      generalize gk = gk0 at *
      go_loopg [3, 4, 16] N (fun gm s3 s4 s16 z => ∃ (j M : Nat) (d : Bool), Hid (gm + j = N) ∧ s16 = .int .i64 (j : Int) ∧ s3 = .int .u64 (M : Int) ∧ s4 = .bool d ∧ Hid ((M : Int) = sw (txt T) (K + j) ∧ d = decide ((K + j) % 2 = 1)) ∧ z = w)
      case atStart => exact ⟨0, M, d, Hid.mk rfl, rfl, rfl, rfl, HM, rfl⟩
      case round =>
        obtain ⟨j, M, d, HJ, rfl, rfl, rfl, HM, hz⟩ := hrel
        have hz2 := hz.symm
        subst hz2
        clear hz
        have hjn : j ≤ N := by have := HJ.out; omega
        by_cases hjl : j < N
        · have hjli : (j : Int) < (N : Int) := by omega
          obtain ⟨b, hb⟩ : ∃ b : Nat, txt S j = (b : Int) := ⟨(txt S j).toNat, by have := txt_b S j; omega⟩
          have hbl : b < 256 := by have := txt_b S j; omega
          have hjS : j < S.size := by rw [HN.out]; exact hjl
          have h1 := HS0.out (K + j)
          have h2 := HAi.out j hjS
          rw [HK.out] at h2
          rw [h2, hb, ← HM.out.1] at h1
          have hlim := HSL.out (K + j + 1) (by omega)
          have HD := Hid.mk HM.out.2
          have HE : Hid (((M + (if d = true then b else b * 256) : Nat) : Int) = sw (txt T) (K + (j + 1)) ∧ (!d) = decide ((K + (j + 1)) % 2 = 1)) := Hid.mk (by
            rw [← Nat.add_assoc, h1, HD.out]
            rcases Nat.mod_two_eq_zero_or_one (K + j) with e | e
            · rw [if_pos e, if_neg (by rw [e]; decide)]
              refine ⟨by omega, ?_⟩
              rw [e]
              have : (K + j + 1) % 2 = 1 := by omega
              rw [this]; rfl
            · rw [if_neg (show ¬ (K + j) % 2 = 0 by omega), if_pos (show decide ((K + j) % 2 = 1) = true by rw [e]; decide)]
              refine ⟨by omega, ?_⟩
              rw [e]
              have : (K + j + 1) % 2 = 0 := by omega
              rw [this]; rfl)
          have hml : M + (if d = true then b else b * 256) < 18446744073709551616 := by
            have := HE.out.1
            rw [Nat.add_assoc K j 1] at hlim
            omega
          generalize hq : (if d = true then b else b * 256) = q at *
          have HQ := Hid.mk hq
          have HB := Hid.mk hb
          clear h1 h2 hlim HD hq HM hb
          go_wp2_with (first | (refine wl_value rfl (exec_ixs rfl (by rfl) (by rfl) hjS) ?_; simp only [HB.out]) | (go_at_call 53; refine (weighed_run b d _ hbl).mono ?_; rintro e w2 ⟨rfl, rfl⟩; simp only [HQ.out]) | (refine wl_value rfl (exec_addU (i := M) (m := q) rfl (by rfl) (by rfl) rfl hml) ?_))
          go_roundg (N - (j + 1))
          case rel => exact ⟨j + 1, M + q, !d, Hid.mk (by omega), by go_num, rfl, rfl, HE, rfl⟩
          case measure => have := HJ.out; omega
        · have hjn2 : j = N := by omega
          subst hjn2
          have HM2 : Hid ((M : Int) = sw (txt T) (P (i + 1)) ∧ d = decide (P (i + 1) % 2 = 1)) := Hid.mk (by
            have := HSi.out
            rw [HN.out, HK.out] at this
            rw [this]
            exact HM.out)
          go_wp2_with fail
          go_roundg (n - (i + 1))
          case rel => exact ⟨i + 1, M, d, Hid.mk (by omega), by go_num, rfl, rfl, HM2, rfl⟩
          case measure => have := HGK.out; omega
    · have hi2 : i = n := by omega
      subst hi2
      have hM := HM.out.1
      rw [HPn.out] at hM
      have hl := HSL.out T.size (Nat.le_refl _)
      have hMl : M < 9223372036854775808 := by omega
      have HF : Hid (65535 - cano (M : Int) = sumT T) := Hid.mk (by rw [HT.out, hM])
      have hcb := cano_b (M : Int)
      clear hM hl
      go_wp2_with (go_at_call 54; refine (folded_run M _ hMl).mono ?_; rintro e w2 ⟨rfl, rfl⟩)
      go_ret
      exact ⟨by rw [← HF.out]; go_num, rfl⟩
end Go.Proofs.YtojekoakgpkkdabDoor

/-
  Own text. The document's Put and Get: numbers as bytes.
-/
namespace Go.Proofs.YtojekoakgpkkdabDoor
open Go.RowKit Go.Proofs Go.Lib
set_option maxRecDepth 100000
/-- The j-th of size bytes of a number, the highest first. -/
def putF (N size j : Nat) : Int := ((N / 256 ^ (size - 1 - j) % 256 : Nat) : Int)
def putT (N size : Nat) : ByteArray := mkS size (putF N size)
theorem putF_b (N size j : Nat) : 0 ≤ putF N size j ∧ putF N size j < 256 := by unfold putF; omega
/-- The number of size bytes from a place on. -/
def getN (f : Nat → Int) (at0 : Nat) : Nat → Nat
  | 0 => 0
  | i + 1 => getN f at0 i * 256 + (f (at0 + i)).toNat
theorem getN_lt {f : Nat → Int} (hf : ∀ j, 0 ≤ f j ∧ f j < 256) (at0 : Nat) : ∀ i, getN f at0 i < 256 ^ i
  | 0 => by simp [getN]
  | i + 1 => by
    have := getN_lt hf at0 i
    have := hf (at0 + i)
    unfold getN
    rw [Nat.pow_succ]
    omega
end Go.Proofs.YtojekoakgpkkdabDoor

/-
  Own text. The program's own Put and Get: the bytes of a number, and a number of bytes.
-/
namespace Go.Proofs.YtojekoakgpkkdabDoor
open Go.RowKit Go.Proofs
set_option maxRecDepth 100000
theorem str_cells (b f0 cp : Nat) (w : World) (n : Nat) (f : Nat → Int) (hR : ∀ j, j < n → w.cell? ⟨b, f0 + j, none⟩ = some (.int .u8 (f j))) (hf : ∀ j, j < n → 0 ≤ f j ∧ f j < 256) : (convert 86 9 (.slice (some ⟨b, f0, none⟩) n cp)).run Tryd.prog w = .ok (.string (mkS n f)) w := by
  have h := run_convert_bytes_back (P := Tryd.prog) w 86 9 5 ⟨b, f0, none⟩ cp (bytesL n f) Tryd.underlying86 Tryd.underlying5 Tryd.underlying9 (fun j hj => by
    rw [bytesL_len] at hj
    rw [Addr.add_lit, hR j hj]
    have := hf j hj
    simp [bytesL]
    omega)
  rw [bytesL_len] at h
  exact h
theorem zero8 (w : World) : (zeroValue 85).run Tryd.prog w = .ok (.agg (SC 8 fun _ => Value.int .u8 0)) w := by kernel_rfl
theorem len8 : Tryd.prog.arrayLen 85 = 8 := by kernel_rfl
theorem sizeB8 (w : World) : (sizeOf (Tryd.prog.elem 85)).run Tryd.prog w = .ok 1 w := by kernel_rfl
section
variable {a : Act} {o : Oper} {w : World} {x y : Operand}
theorem exec_shrP (ho : o.op = .binOp .shr 79 x y 3) {n i q : Nat} (hx : a.eval x = .int .u64 (n : Int)) (hy : a.eval y = .int .i64 ((8 * i : Nat) : Int)) (hi : i < 8) (hq : n / 256 ^ i = q) : (execOp a.eval o).run Tryd.prog w = .ok (.value (.int .u64 (q : Int))) w := by
  subst hq
  refine exec_bin2 ho hx hy rfl ?_
  match i, hi with
  | 0, _ => simp [go_sem]
  | 1, _ => simp [go_sem]
  | 2, _ => simp [go_sem]
  | 3, _ => simp [go_sem]
  | 4, _ => simp [go_sem]
  | 5, _ => simp [go_sem]
  | 6, _ => simp [go_sem]
  | 7, _ => simp [go_sem]
theorem exec_cvU8m (ho : o.op = .convert 79 5 x) {m r : Nat} (hx : a.eval x = .int .u64 (m : Int)) (hr : m % 256 = r) : (execOp a.eval o).run Tryd.prog w = .ok (.value (.int .u8 (r : Int))) w := by
  subst hr
  have e : IntKind.u8.wrap (m : Int) = ((m % 256 : Nat) : Int) := by rw [IntKind.wrap_u8]; omega
  unfold execOp
  simp only [ho, hx]
  simp [go_sem, e]
theorem wl_st8A {ops : Array Oper} {rest : List Oper} {Q : Exit → Act → World → Prop} {g n i : Nat} {s : Nat → Int} {v : Int} {ty : TypeId} (ho : o.op = .store 5 x y) (hw : Region.wanted o (yielded ops a.tmps) = true) (hg : ArrAt w g .u8 ty n s) (hx : a.eval x = .pointer (some ⟨g, i, none⟩)) (hy : a.eval y = .int .u8 v) (hi : i < n)
    (h : ∀ w2, ArrAt w2 g .u8 ty n (upd s i v) → Only g w w2 → wpList Tryd.prog ops Q rest (a.put o.dst undef) w2) : wpList Tryd.prog ops Q (o :: rest) a w := by
  refine wl_act hw ?_
  have hc := hg.cell i hi
  have hf := hg.free i
  have hr : (Instr.storeAt 5 (.pointer (some ⟨g, i, none⟩)) (.int .u8 v)).run Tryd.prog w = .ok () (w.setCell ⟨g, i, none⟩ (.int .u8 v)) := by simp [go_sem, hc, hf]
  unfold Oper.wp execOp
  simp only [ho, hx, hy, Sem.run_bind, hr, Result.andThen_ok, Sem.run_pure, Oper.upon]
  exact h _ (hg.set i v hi) only_set
end
set_option maxHeartbeats 4000000 in
theorem Put_run (N size : Nat) (w : World) (h1 : 1 ≤ size) (h8 : size ≤ 8) : Calls Tryd.prog 32 #[.int .u64 (N : Int), .int .i64 (size : Int)] w fun e w' => e = .returned (.string (putT N size)) ∧ Below w.heap.size w w' := by
  have i1 : ¬ (size : Int) < 1 := by omega
  have i8 : ¬ (8 : Int) < (size : Int) := by omega
  go_enter Tryd.func32, Tryd.ntmps32
  go_wp2_with (refine wl_alO rfl rfl zero8 ?_; intro g w1 hg q1 hB1; refine Hid.out ?_)
  refine Hid.mk ?_
  have q1 : Hid (ArrAt w1 g .u8 85 8 (fun _ => 0)) := Hid.mk q1
  go_wp2_with fail
  go_loopg [13] 8 (fun gm s13 z => ∃ k : Nat, Hid (gm + k = 8) ∧ s13 = .int .i64 (k : Int) ∧ Hid (ArrAt z g .u8 85 8 (fun j => if j < k then putF N 8 j else 0)) ∧ Below w.heap.size w z)
  case atStart => exact ⟨0, Hid.mk rfl, rfl, Hid.mk (q1.out.congr (fun i hi => by rw [if_neg (by omega)])), hB1⟩
  case round =>
    obtain ⟨k, HK, rfl, HR, hB⟩ := hrel
    have hk8 : k ≤ 8 := by have := HK.out; omega
    by_cases hk : k < 8
    · have hki : (k : Int) < 8 := by omega
      obtain ⟨s, hs⟩ : ∃ s, 7 - k = s := ⟨_, rfl⟩
      obtain ⟨q, hq⟩ : ∃ q, N / 256 ^ s = q := ⟨_, rfl⟩
      obtain ⟨r, hr⟩ : ∃ r, q % 256 = r := ⟨_, rfl⟩
      have HQ := Hid.mk (And.intro hq hr)
      have HF : Hid (putF N 8 k = (r : Int)) := Hid.mk (by unfold putF; rw [← hr, ← hq, ← hs])
      have hs7 : s < 8 := by omega
      have es : (7 : Int) - (k : Int) = (s : Int) := by omega
      have HS := Hid.mk es
      have hrl : r < 256 := by omega
      clear hq hr es hs
      have hq := HR.out
      go_wp2_with (first | (refine wl_value rfl (exec_subW (i := 7) (m := k) (q := s) rfl (by rfl) (by rfl) (by have := HS.out; omega) (by omega)) ?_) | (refine wl_value rfl (exec_mulW (i := 8) (m := s) rfl (by rfl) (by rfl) rfl (by omega)) ?_) | (refine wl_value rfl (exec_shrP (n := N) (i := s) rfl (by rfl) (by rfl) hs7 HQ.out.1) ?_) | (refine wl_value rfl (exec_cvU8m (m := q) rfl (by rfl) HQ.out.2) ?_) | (refine wl_value rfl (exec_idxA (i := k) rfl Tryd.underlying85 len8 sizeB8 (by rfl) (by rfl) hk) ?_) | (refine wl_st8A rfl rfl hq (by rfl) (by rfl) hk ?_; intro w2 q2 o2; refine Hid.out ?_))
      refine Hid.mk ?_
      have HX : Hid (ArrAt w2 g .u8 85 8 (fun j => if j < k + 1 then putF N 8 j else 0)) := Hid.mk (q2.congr (fun j _ => by
        show upd (fun j => if j < k then putF N 8 j else 0) k r j = _
        unfold upd
        by_cases e : j = k
        · rw [if_pos e, if_pos (by omega), e, HF.out]
        · rw [if_neg e]
          show (if j < k then putF N 8 j else 0) = if j < k + 1 then putF N 8 j else 0
          by_cases e2 : j < k
          · rw [if_pos e2, if_pos (by omega)]
          · rw [if_neg e2, if_neg (by omega)]))
      have hB2 : Below w.heap.size w w2 := hB.trans (o2.below hg)
      clear q2 o2 hq HR hB
      go_wp2_with fail
      go_roundg (8 - (k + 1))
      case rel => exact ⟨k + 1, Hid.mk (by omega), by go_num, HX, hB2⟩
      case measure => have := HK.out; omega
    · have hk2 : k = 8 := by omega
      subst hk2
      obtain ⟨l, hl⟩ : ∃ l, 8 - size = l := ⟨_, rfl⟩
      have hl8 : l < 8 := by omega
      have hq := HR.out
      have hcv := str_cells g l (8 - l) wr size (putF N size) (fun j hj => by
        rw [hq.cell (l + j) (by omega), if_pos (by omega)]
        congr 1
        congr 1
        unfold putF
        rw [show 8 - 1 - (l + j) = size - 1 - j by omega]) (fun j _ => putF_b N size j)
      have hsl := slArrL Tryd.underlying85 len8 sizeB8 g l wr hl8
      have e8 : 8 - l = size := by omega
      rw [e8] at hsl hcv
      clear hq
      go_wp2_with (first | (refine wl_value rfl (exec_subW (i := 8) (m := size) (q := l) rfl (by rfl) (by rfl) (by omega) (by omega)) ?_) | (refine wl_value rfl (exec_slL rfl (by rfl) (by rfl) hsl) ?_) | (refine wl_value rfl (exec_conv rfl (by rfl) hcv) ?_))
      go_ret
      exact ⟨rfl, hB⟩
set_option maxHeartbeats 4000000 in
theorem Get_run (T : ByteArray) (at0 size : Nat) (w : World) (hT : T.size < 9223372036854775808) (h1 : 1 ≤ size) (h8 : size ≤ 8) (ha : at0 + size ≤ T.size) : Calls Tryd.prog 46 #[.string T, .int .i64 (at0 : Int), .int .i64 (size : Int)] w fun e w' => e = .returned (.tuple #[.int .u64 (getN (txt T) at0 size : Int), .bool true]) ∧ w' = w := by
  obtain ⟨N, hN⟩ : ∃ N, T.size = N := ⟨_, rfl⟩
  have HN := Hid.mk hN
  rw [hN] at ha hT
  have i1 : ¬ (size : Int) < 1 := by omega
  have i2 : ¬ (8 : Int) < (size : Int) := by omega
  have i3 : ¬ (at0 : Int) < 0 := by omega
  have i5 : ¬ (N : Int) - (size : Int) < (at0 : Int) := by omega
  have i6 : -9223372036854775808 ≤ (N : Int) - (size : Int) := by omega
  have i7 : (N : Int) - (size : Int) ≤ 9223372036854775807 := by omega
  go_enter Tryd.func46, Tryd.ntmps46
  go_wp2_with fail
  clear i1 i2 i3 i5 i6 i7
  go_loopg [8, 29] size (fun gm s8 s9 z => ∃ i : Nat, gm = size - i ∧ i ≤ size ∧ s9 = .int .i64 (i : Int) ∧ s8 = .int .u64 (getN (txt T) at0 i : Int) ∧ z = w)
  case atStart => exact ⟨0, rfl, by omega, rfl, rfl, rfl⟩
  case round =>
    obtain ⟨i, hgm, hi, rfl, rfl, hz⟩ := hrel
    have hz2 := hz.symm
    subst hz2
    clear hz
    by_cases hlt : i < size
    · have hlti : (i : Int) < (size : Int) := by omega
      obtain ⟨c, hc⟩ : ∃ c : Nat, txt T (at0 + i) = (c : Int) := ⟨(txt T (at0 + i)).toNat, by have := txt_b T (at0 + i); omega⟩
      have hcl : c < 256 := by have := txt_b T (at0 + i); omega
      obtain ⟨m, hm⟩ : ∃ m, getN (txt T) at0 i = m := ⟨_, rfl⟩
      have hml : m < 72057594037927936 := by
        have h2 := getN_lt (fun j => txt_b T j) at0 i
        have h3 : 256 ^ i ≤ 256 ^ 7 := Nat.pow_le_pow_right (by decide) (by omega)
        have h4 : (256 : Nat) ^ 7 = 72057594037927936 := rfl
        omega
      have HG : Hid (getN (txt T) at0 (i + 1) = m * 256 + c) := Hid.mk (by
        show getN (txt T) at0 i * 256 + (txt T (at0 + i)).toNat = _
        rw [hm, hc, Int.toNat_natCast])
      have HC := Hid.mk hc
      rw [hm]
      clear hm hc
      obtain ⟨q, hq⟩ : ∃ q, at0 + i = q := ⟨_, rfl⟩
      have hql : q < 9223372036854775808 := by omega
      rw [hq] at HC
      have HXS : Hid (q < T.size) := Hid.mk (by rw [HN.out]; omega)
      have HQ := Hid.mk hq
      clear hq
      go_wp2_with (first | (refine wl_value rfl (exec_shl8U (i := m) rfl (by rfl) (by rfl) rfl (by omega)) ?_) | (refine wl_value rfl (exec_addW (i := at0) (m := i) rfl (by rfl) (by rfl) HQ.out hql) ?_) | (refine wl_value rfl (exec_ixs rfl (by rfl) (by rfl) HXS.out) ?_; simp only [HC.out]) | (refine wl_value rfl (exec_cv8U (m := c) rfl (by rfl) hcl) ?_) | (refine wl_value rfl (exec_orU8 (i := m) (c := c) rfl (by rfl) (by rfl) hcl rfl (by omega)) ?_))
      go_roundg (size - (i + 1))
      case rel => exact ⟨i + 1, rfl, by omega, by go_num, by rw [HG.out]; rfl, rfl⟩
      case measure => omega
    · have hi2 : i = size := by omega
      subst hi2
      go_wp2_with fail
      exact bodyPost_ret (results_two rfl (by rfl) (by rfl)) rfl ⟨rfl, rfl⟩
end Go.Proofs.YtojekoakgpkkdabDoor

/-
  Own text. The document's Valid, Bytes, None, Group, V4, From: addresses as bytes.
-/
namespace Go.Proofs.YtojekoakgpkkdabDoor
open Go.RowKit Go.Proofs Go.Lib
set_option maxRecDepth 100000
/-- The bytes of an address. -/
def bytT (v : Bool) (b : Nat → Int) : ByteArray := if validF v b = true then mkS (if v = true then 16 else 4) b else ByteArray.empty
def noneF (b : Nat → Int) : Bool := (List.range 16).all fun i => decide (b i = 0)
def groupF (v : Bool) (b : Nat → Int) : Bool := validF v b && (if v = true then decide (b 0 = 255) else decide (224 ≤ b 0))
def v4B (p q r s : Int) (j : Nat) : Int := if j = 0 then p else if j = 1 then q else if j = 2 then r else if j = 3 then s else 0
theorem none_iff {b : Nat → Int} : noneF b = true ↔ ∀ i, i < 16 → b i = 0 := by
  unfold noneF
  rw [List.all_eq_true]
  exact ⟨fun h i hi => of_decide_eq_true (h i (List.mem_range.2 hi)), fun h i hi => decide_eq_true (h i (List.mem_range.1 hi))⟩
theorem bytT_size (v : Bool) (b : Nat → Int) : (bytT v b).size ≤ 16 := by
  unfold bytT
  split
  · rw [mkS_size]
    split <;> omega
  · simp
section
variable {a : Act} {o : Oper} {w : World} {x y : Operand}
theorem exec_fadW0 (ho : o.op = .fieldAddr 30 x 0) {g : Nat} (hx : a.eval x = .pointer (some ⟨g, 0, none⟩)) : (execOp a.eval o).run Tryd.prog w = .ok (.value (.pointer (some ⟨g, 0, none⟩))) w := by
  have h : (Instr.fieldAt 30 (.pointer (some ⟨g, 0, none⟩)) 0).run Tryd.prog w = .ok (.pointer (some ⟨g, 0, none⟩)) w := by simp [go_sem]
  unfold execOp
  simp only [ho, hx, Sem.run_bind, h, Result.andThen_ok, Sem.run_pure]
theorem exec_fadW1 (ho : o.op = .fieldAddr 30 x 1) {g f : Nat} (hx : a.eval x = .pointer (some ⟨g, f, none⟩)) : (execOp a.eval o).run Tryd.prog w = .ok (.value (.pointer (some ⟨g, f + 1, none⟩))) w := by
  have h : (Instr.fieldAt 30 (.pointer (some ⟨g, f, none⟩)) 1).run Tryd.prog w = .ok (.pointer (some ⟨g, f + 1, none⟩)) w := by simp [go_sem]
  unfold execOp
  simp only [ho, hx, Sem.run_bind, h, Result.andThen_ok, Sem.run_pure]
theorem exec_ixW16 (ho : o.op = .indexAddr 28 x y) {g k : Nat} (hx : a.eval x = .pointer (some ⟨g, 1, none⟩)) (hy : a.eval y = .int .i64 (k : Int)) (hk : k < 16) : (execOp a.eval o).run Tryd.prog w = .ok (.value (.pointer (some ⟨g, 1 + k, none⟩))) w := by
  have h2 : (k : Int) < 16 := by omega
  have h3 : (0 : Int) ≤ (k : Int) := by omega
  have h : (Instr.indexAt 28 (.pointer (some ⟨g, 1, none⟩)) (.int .i64 (k : Int))).run Tryd.prog w = .ok (.pointer (some ⟨g, 1 + k, none⟩)) w := by simp [go_sem, h2, h3]
  unfold execOp
  simp only [ho, hx, hy, Sem.run_bind, h, Result.andThen_ok, Sem.run_pure]
theorem ldW8 {p : Addr} {n : Int} (h : w.cell? p = some (.int .u8 n)) : (Instr.loadAt 5 (.pointer (some p))).run Tryd.prog w = .ok (.int .u8 n) w := by simp [go_sem, h]
theorem zeroAddr (w : World) : (zeroValue 30).run Tryd.prog w = .ok (.agg (SC 17 (adV false (fun _ => 0)))) w := by kernel_rfl
theorem run_adW1 (v : Bool) (w : World) : (Instr.build 30 #[(0, .bool v)]).run Tryd.prog w = .ok (.agg (SC 17 (adV v (fun _ => 0)))) w := by kernel_rfl
theorem exec_adW1 (ho : o.op = .build 30 #[(0, x)]) {v : Bool} (hx : a.eval x = .bool v) : (execOp a.eval o).run Tryd.prog w = .ok (.value (.agg (SC 17 (adV v (fun _ => 0))))) w := by
  unfold execOp
  simp only [ho]
  simp [hx, run_adW1]
end
theorem res_ct {fn : Func} {p q : Tmp} {ty : TypeId} (h : fn.results = #[.cell p ty, .tmp q]) {tmps : Array Value} {w : World} {z : Value} {g n : Nat} {V : Nat → Value} (hA : IsSt ty n) (hg : SAt w g ty n V) (hp : tmps.getD p undef = .pointer (some ⟨g, 0, none⟩)) (hq : tmps.getD q undef = z) : (results fn tmps).run Tryd.prog w = .ok (.tuple #[.agg (SC n V), z]) w := by
  obtain ⟨d, h1, h2, h3⟩ := hA
  have hp' : tmps[p]?.getD undef = .pointer (some ⟨g, 0, none⟩) := by simpa using hp
  have hq' : tmps[q]?.getD undef = z := by simpa using hq
  have hl := run_loadVar_row (P := Tryd.prog) w g ty ty (SC n V) (0, 0) _ hg h1 (by cases d <;> first | rfl | exact h2) (by rw [SC_size]; exact h3)
  simp [results, h, hp', hq', asAddr, hl]
end Go.Proofs.YtojekoakgpkkdabDoor

/-
  Own text. The document's V4 and From: the address of bytes.
-/
namespace Go.Proofs.YtojekoakgpkkdabDoor
open Go.RowKit Go.Proofs Go.Lib
set_option maxRecDepth 100000
/-- The address of a text of 4 or 16 bytes. -/
def frB (T : ByteArray) (j : Nat) : Int := if j < T.size then txt T j else 0
end Go.Proofs.YtojekoakgpkkdabDoor

/-
  Own text. What a drawn region that stores nothing of what was there keeps.
-/
namespace Go.Proofs.YtojekoakgpkkdabDoor
open Go.RowKit Go.Proofs Go.Lib
set_option maxRecDepth 100000
theorem below_GcW {u7 u8 : World} (h : u7.heap.size ≤ u8.heap.size) (w w' : World) (hb : Below u7.heap.size u7 w) (ht : Touch (fun k => u8.heap.size ≤ k ∨ k ∈ (([] : List (Nat × Cont)).map (·.1))) w w') : Below u7.heap.size u7 w' :=
  hb.trans ⟨ht.os, ht.tape, ht.output, ht.size, fun k hk => ht.block k (by have := hb.size; omega) (fun e => by
    rcases e with e | e
    · omega
    · simp at e)⟩
end Go.Proofs.YtojekoakgpkkdabDoor

/-
  Own text. The program's own addresses: V4, Valid, Bytes, From, Group, None.
-/
namespace Go.Proofs.YtojekoakgpkkdabDoor
open Go.RowKit Go.Proofs
set_option maxRecDepth 100000
/-- Are two addresses the same? -/
def eqAF (v : Bool) (b : Nat → Int) (v' : Bool) (b' : Nat → Int) : Bool := (v == v') && (List.range 16).all fun i => b i == b' i
theorem eqAF_iff {v v' : Bool} {b b' : Nat → Int} : eqAF v b v' b' = true ↔ (v = v' ∧ ∀ i, i < 16 → b i = b' i) := by
  unfold eqAF
  rw [Bool.and_eq_true, beq_iff_eq, List.all_eq_true]
  constructor
  · rintro ⟨h, g⟩
    exact ⟨h, fun i hi => beq_iff_eq.1 (g i (List.mem_range.2 hi))⟩
  · rintro ⟨h, g⟩
    exact ⟨h, fun i hi => beq_iff_eq.2 (g i (List.mem_range.1 hi))⟩
theorem rowW_get (n : Nat) (b : Nat → Int) {i : Nat} (h : i < n) : (SC n fun j => Value.int .u8 (b j))[i]? = some (.int .u8 (b i)) := SC_get n _ i h
theorem eqItems_W (b b' : Nat → Int) (d : Nat) (w : World) : ∀ (is : List Nat), (∀ i ∈ is, i < 16) → (Op.eqItems (d + 1) 5 1 (SC 16 fun j => Value.int .u8 (b j)) (SC 16 fun j => Value.int .u8 (b' j)) is).run Tryd.prog w = .ok (is.all fun i => b i == b' i) w
  | [], _ => by simp [Op.eqItems]
  | i :: is, h => by
    have hi : i < 16 := h i (by simp)
    have ih := eqItems_W b b' d w is (fun j hj => h j (by simp [hj]))
    have e1 : (part 5 (SC 16 fun j => Value.int .u8 (b j)) (i * 1)).run Tryd.prog w = .ok (.int .u8 (b i)) w := by
      simp [part, rowW_get, hi, go_sem]
    have e2 : (part 5 (SC 16 fun j => Value.int .u8 (b' j)) (i * 1)).run Tryd.prog w = .ok (.int .u8 (b' i)) w := by
      simp [part, rowW_get, hi, go_sem]
    simp only [Op.eqItems, Sem.run_bind, e1, e2, Result.andThen_ok, run_equalIn_int w d 5 .u8 .u8 _ _ Tryd.underlying5, List.all_cons]
    cases hb : (b i == b' i)
    · simp
    · simpa using ih
theorem cellsW8 : Tryd.prog.cellsOf 5 = 1 := by kernel_rfl
theorem infoW8 : (Tryd.prog.info? 5).isSome = true := by kernel_rfl
theorem equal_b16 (b b' : Nat → Int) (d : Nat) (w : World) : (Op.equalIn (d + 1 + 1) 28 (.agg (SC 16 fun j => Value.int .u8 (b j))) (.agg (SC 16 fun j => Value.int .u8 (b' j)))).run Tryd.prog w = .ok ((List.range 16).all fun i => b i == b' i) w := by
  obtain ⟨i, hi⟩ := Option.isSome_iff_exists.1 infoW8
  rw [run_equalIn_array w (d + 1) _ _ Tryd.underlying28 hi, cellsW8]
  exact eqItems_W b b' d w _ (fun i hi => List.mem_range.1 hi)
theorem fieldsA : (Tryd.prog.fieldsOf 30).toList.map (fun f => (f.name, f.type, f.offset)) = [("V6", 4, 0), ("B", 28, 1)] := by kernel_rfl
theorem stoodA : Tryd.prog.stoodInHeld 30 = false := by kernel_rfl
theorem eqgA : Tryd.prog.eqGuardType Tryd.prog.depth 30 = false := by kernel_rfl
theorem partA0 (v : Bool) (b : Nat → Int) (w : World) : (part 4 (SC 17 (adV v b)) 0).run Tryd.prog w = .ok (.bool v) w := by kernel_rfl
theorem partA1 (v : Bool) (b : Nat → Int) (w : World) : (part 28 (SC 17 (adV v b)) 1).run Tryd.prog w = .ok (.agg (SC 16 fun j => Value.int .u8 (b j))) w := by kernel_rfl
theorem equal_addr (v : Bool) (b : Nat → Int) (v' : Bool) (b' : Nat → Int) (w : World) : (Op.equalIn 10000 30 (.agg (SC 17 (adV v b))) (.agg (SC 17 (adV v' b')))).run Tryd.prog w = .ok (eqAF v b v' b') w := by
  rw [run_equalIn_struct w 9999 30 _ _ Tryd.underlying30 stoodA]
  have hf := fieldsA
  generalize (Tryd.prog.fieldsOf 30).toList = fs at hf
  obtain ⟨f0, f1, rfl⟩ : ∃ f0 f1, fs = [f0, f1] := by
    have hl : fs.length = 2 := by have := congrArg List.length hf; simpa using this
    cases fs with
    | nil => simp at hl
    | cons f0 fs =>
      cases fs with
      | nil => simp at hl
      | cons f1 fs =>
        cases fs with
        | nil => exact ⟨f0, f1, rfl⟩
        | cons f2 fs => simp at hl
  · simp only [List.map_cons, List.map_nil, List.cons.injEq, Prod.mk.injEq, and_true] at hf
    obtain ⟨⟨n0, t0, o0⟩, n1, t1, o1⟩ := hf
    simp only [Op.eqFields, n0, t0, o0, n1, t1, o1, ne_eq, String.reduceEq, not_false_eq_true, if_true, Sem.run_bind, partA0, Result.andThen_ok, run_equalIn_bool w 9998 4 v v' Tryd.underlying4]
    unfold eqAF
    cases hv : (v == v')
    · simp
    · simp only [Bool.not_true, Bool.false_eq_true, if_false, Sem.run_bind, partA1, Result.andThen_ok, equal_b16 b b' 9997 w, Bool.true_and]
      cases (List.range 16).all fun i => b i == b' i <;> simp
section
variable {a : Act} {o : Oper} {w : World} {x y : Operand} {t : TypeId}
theorem exec_eqA (ho : o.op = .binOp .eql 30 x y t) {v : Bool} {b : Nat → Int} {v' : Bool} {b' : Nat → Int} (hx : a.eval x = .agg (SC 17 (adV v b))) (hy : a.eval y = .agg (SC 17 (adV v' b'))) : (execOp a.eval o).run Tryd.prog w = .ok (.value (.bool (eqAF v b v' b'))) w := by
  unfold execOp
  simp only [ho, hx, hy, Sem.run_bind, run_eqGuard_agg w .eql 30 x y _ _ eqgA, Result.andThen_ok, run_eql_struct, equal_addr v b v' b' w, Sem.run_pure]
theorem run_b16 (p q r s : Int) (w : World) : (Instr.build 28 #[(0, .int .u8 p), (1, .int .u8 q), (2, .int .u8 r), (3, .int .u8 s)]).run Tryd.prog w = .ok (.agg (SC 16 fun j => Value.int .u8 (v4B p q r s j))) w := by kernel_rfl
theorem exec_b16 {x1 x2 x3 x4 : Operand} (ho : o.op = .build 28 #[(0, x1), (1, x2), (2, x3), (3, x4)]) {p q r s : Int} (h1 : a.eval x1 = .int .u8 p) (h2 : a.eval x2 = .int .u8 q) (h3 : a.eval x3 = .int .u8 r) (h4 : a.eval x4 = .int .u8 s) : (execOp a.eval o).run Tryd.prog w = .ok (.value (.agg (SC 16 fun j => Value.int .u8 (v4B p q r s j)))) w := by
  have h := run_b16 p q r s w
  unfold execOp
  simp only [ho, List.map_toArray, List.map_cons, List.map_nil, h1, h2, h3, h4, Sem.run_bind, h, Result.andThen_ok, Sem.run_pure]
theorem run_adB (b : Nat → Int) (w : World) : (Instr.build 30 #[(1, .agg (SC 16 fun j => Value.int .u8 (b j)))]).run Tryd.prog w = .ok (.agg (SC 17 (adV false b))) w := by kernel_rfl
theorem exec_adB (ho : o.op = .build 30 #[(1, x)]) {b : Nat → Int} (hx : a.eval x = .agg (SC 16 fun j => Value.int .u8 (b j))) : (execOp a.eval o).run Tryd.prog w = .ok (.value (.agg (SC 17 (adV false b)))) w := by
  have h := run_adB b w
  unfold execOp
  simp only [ho, List.map_toArray, List.map_cons, List.map_nil, hx, Sem.run_bind, h, Result.andThen_ok, Sem.run_pure]
end
set_option maxHeartbeats 4000000 in
theorem V4_run (p q r s : Int) (w : World) : Calls Tryd.prog 19 #[.int .u8 p, .int .u8 q, .int .u8 r, .int .u8 s] w fun e w' => e = .returned (.agg (SC 17 (adV false (v4B p q r s)))) ∧ Below w.heap.size w w' := by
  go_enter Tryd.func19, Tryd.ntmps19
  go_wp2_with (first | (refine wl_alO rfl rfl zeroAddr ?_; intro g w1 hg q1 hB1; refine Hid.out ?_))
  refine Hid.mk ?_
  go_wp2_with (first | (refine wl_value rfl (exec_b16 rfl (by rfl) (by rfl) (by rfl) (by rfl)) ?_) | (refine wl_value rfl (exec_adB rfl (by rfl)) ?_) | (refine st_stO rfl rfl isAddr (adV_one _ _) q1 (by rfl) (by rfl) ?_; intro u3 q3 o3; refine Hid.out ?_))
  refine Hid.mk ?_
  go_wp2_with fail
  exact bodyPost_ret (res_st rfl isAddr q3 (by rfl)) rfl ⟨rfl, hB1.trans (o3.below hg)⟩
theorem ldWb {w : World} {p : Addr} {v : Bool} (h : w.cell? p = some (.bool v)) : (Instr.loadAt 4 (.pointer (some p))).run Tryd.prog w = .ok (.bool v) w := by simp [go_sem, h]
theorem enterW_V4 (args : Array Value) (w : World) : (callFunc 19 args).run Tryd.prog w = .ok (.enter 19 args) w := by kernel_rfl
theorem valid_v4 (b : Nat → Int) : validF false b = eqAF false b false (v4B (b 0) (b 1) (b 2) (b 3)) := by
  have h1 := valid_iff (v := false) (b := b)
  have h2 := eqAF_iff (v := false) (v' := false) (b := b) (b' := v4B (b 0) (b 1) (b 2) (b 3))
  have h3 : (∀ i, 4 ≤ i → i < 16 → b i = 0) ↔ (∀ i, i < 16 → b i = v4B (b 0) (b 1) (b 2) (b 3) i) := by
    constructor
    · intro h i hi
      unfold v4B
      split
      · rename_i e; rw [e]
      · split
        · rename_i e; rw [e]
        · split
          · rename_i e; rw [e]
          · split
            · rename_i e; rw [e]
            · exact h i (by omega) hi
    · intro h i h4 hi
      rw [h i hi]
      unfold v4B
      rw [if_neg (by omega), if_neg (by omega), if_neg (by omega), if_neg (by omega)]
  cases hv : validF false b <;> cases he : eqAF false b false (v4B (b 0) (b 1) (b 2) (b 3))
  · rfl
  · exfalso
    have := h1.2 (.inr (h3.2 (h2.1 he).2))
    rw [hv] at this
    cases this
  · exfalso
    rcases h1.1 hv with e | e
    · cases e
    · have := h2.2 ⟨rfl, h3.1 e⟩
      rw [he] at this
      cases this
  · rfl
set_option maxHeartbeats 4000000 in
theorem Valid_run (v : Bool) (b : Nat → Int) (w : World) : Calls Tryd.prog 10 #[.agg (SC 17 (adV v b))] w fun e w' => e = .returned (.bool (validF v b)) ∧ Below w.heap.size w w' := by
  go_enter Tryd.func10, Tryd.ntmps10
  go_wp2_with (refine wl_boxO rfl rfl isAddr (by rfl) ?_; intro g u1 hg g1 hB1; refine Hid.out ?_)
  refine Hid.mk ?_
  go_upto_region 1 with fail
  cases v
  · have hf := valid_v4 b
    refine wp_region3 (Below u1.heap.size u1) u1.heap.size
        ([] : List (Nat × Cont))
        [kv (.pointer (some ⟨g, 0, none⟩)), kv (.bool false), kv (.bool false), kv (.agg (SC 17 (adV false b))), kv (.pointer (some ⟨g, 1, none⟩)), kv (.pointer (some ⟨g, 1 + 0, none⟩)), kv (.int .u8 (b 0)), kv (.pointer (some ⟨g, 1, none⟩)), kv (.pointer (some ⟨g, 1 + 1, none⟩)), kv (.int .u8 (b 1)), kv (.pointer (some ⟨g, 1, none⟩)), kv (.pointer (some ⟨g, 1 + 2, none⟩)), kv (.int .u8 (b 2)), kv (.pointer (some ⟨g, 1, none⟩)), kv (.pointer (some ⟨g, 1 + 3, none⟩)), kv (.int .u8 (b 3)), kv (.agg (SC 17 (adV false (v4B (b 0) (b 1) (b 2) (b 3))))), kv (.bool (eqAF false b false (v4B (b 0) (b 1) (b 2) (b 3)))), kv (.bool (eqAF false b false (v4B (b 0) (b 1) (b 2) (b 3)))), kv (.bool (eqAF false b false (v4B (b 0) (b 1) (b 2) (b 3))))]
        [.none, .none, .none, .none, .none, .none, .none, .none, .none, .none, .none, .none, .none, .none, .none, .none, .none, .none, .none, .none]
        [some 3, some 4, some 5, some 6, some 7, some 8, some 9, some 10, some 11, some 12, some 13, some 14, some 15, some 16, some 17, some 18, some 19, some 20, some 21, some 2]
        [(1, .pointer (some ⟨g, 0, none⟩))]
        [[], [.slot 0], [.slot 1], [.slot 2], [.slot 2], [.slot 2, .slot 4], [.slot 2, .slot 5], [.slot 2], [.slot 2, .slot 7], [.slot 2, .slot 8], [.slot 2], [.slot 2, .slot 10], [.slot 2, .slot 11], [.slot 2], [.slot 2, .slot 13], [.slot 2, .slot 14], [.slot 2, .slot 6, .slot 9, .slot 12, .slot 15], [.slot 2, .slot 3, .slot 16], [.slot 2, .slot 17], [.slot 18]]
        [.slot 19] [3, 4, 5, 6, 7, 8, 9, 10, 11, 12, 13, 14, 15, 16, 17, 18, 19, 20, 21, 2]
        rfl (by kernel_rfl) ⟨rfl, trivial⟩ ((Below.refl _ u1).drew) (Nat.le_refl _) trivial trivial (below_GcW (Nat.le_refl _))
        ⟨
          (fun Q aq ww own hS hBg fr kn => .inl ⟨trivial, fun K hK => wp_value (exec_fadW0 rfl fr.1) (hK _ _ ⟨Touch.refl _ _, rfl⟩)⟩),
          (fun Q aq ww own hS hBg fr kn => .inl ⟨trivial, fun K hK => wp_value (exec_ld rfl kn.1 (ldWb (ad_v (SAt.kept g1 hS)))) (hK _ _ ⟨Touch.refl _ _, rfl⟩)⟩),
          (fun Q aq ww own hS hBg fr kn => .inl ⟨trivial, fun K hK => wp_value (exec_move rfl kn.1) (hK _ _ ⟨Touch.refl _ _, rfl⟩)⟩),
          (fun Q aq ww own hS hBg fr kn => .inl ⟨kn.1, fun K hK => wp_value (look_st rfl isAddr (SAt.kept g1 hS) fr.1) (hK _ _ ⟨Touch.refl _ _, rfl⟩)⟩),
          (fun Q aq ww own hS hBg fr kn => .inl ⟨kn.1, fun K hK => wp_value (exec_fadW1 rfl fr.1) (hK _ _ ⟨Touch.refl _ _, rfl⟩)⟩),
          (fun Q aq ww own hS hBg fr kn => .inl ⟨kn.1, fun K hK => wp_value (exec_ixW16 (k := 0) rfl kn.2.1 rfl (by decide)) (hK _ _ ⟨Touch.refl _ _, rfl⟩)⟩),
          (fun Q aq ww own hS hBg fr kn => .inl ⟨kn.1, fun K hK => wp_value (exec_ld rfl kn.2.1 (ldW8 (ad_b (SAt.kept g1 hS) 0 (by decide)))) (hK _ _ ⟨Touch.refl _ _, rfl⟩)⟩),
          (fun Q aq ww own hS hBg fr kn => .inl ⟨kn.1, fun K hK => wp_value (exec_fadW1 rfl fr.1) (hK _ _ ⟨Touch.refl _ _, rfl⟩)⟩),
          (fun Q aq ww own hS hBg fr kn => .inl ⟨kn.1, fun K hK => wp_value (exec_ixW16 (k := 1) rfl kn.2.1 rfl (by decide)) (hK _ _ ⟨Touch.refl _ _, rfl⟩)⟩),
          (fun Q aq ww own hS hBg fr kn => .inl ⟨kn.1, fun K hK => wp_value (exec_ld rfl kn.2.1 (ldW8 (ad_b (SAt.kept g1 hS) 1 (by decide)))) (hK _ _ ⟨Touch.refl _ _, rfl⟩)⟩),
          (fun Q aq ww own hS hBg fr kn => .inl ⟨kn.1, fun K hK => wp_value (exec_fadW1 rfl fr.1) (hK _ _ ⟨Touch.refl _ _, rfl⟩)⟩),
          (fun Q aq ww own hS hBg fr kn => .inl ⟨kn.1, fun K hK => wp_value (exec_ixW16 (k := 2) rfl kn.2.1 rfl (by decide)) (hK _ _ ⟨Touch.refl _ _, rfl⟩)⟩),
          (fun Q aq ww own hS hBg fr kn => .inl ⟨kn.1, fun K hK => wp_value (exec_ld rfl kn.2.1 (ldW8 (ad_b (SAt.kept g1 hS) 2 (by decide)))) (hK _ _ ⟨Touch.refl _ _, rfl⟩)⟩),
          (fun Q aq ww own hS hBg fr kn => .inl ⟨kn.1, fun K hK => wp_value (exec_fadW1 rfl fr.1) (hK _ _ ⟨Touch.refl _ _, rfl⟩)⟩),
          (fun Q aq ww own hS hBg fr kn => .inl ⟨kn.1, fun K hK => wp_value (exec_ixW16 (k := 3) rfl kn.2.1 rfl (by decide)) (hK _ _ ⟨Touch.refl _ _, rfl⟩)⟩),
          (fun Q aq ww own hS hBg fr kn => .inl ⟨kn.1, fun K hK => wp_value (exec_ld rfl kn.2.1 (ldW8 (ad_b (SAt.kept g1 hS) 3 (by decide)))) (hK _ _ ⟨Touch.refl _ _, rfl⟩)⟩),
          (fun Q aq ww own hS hBg fr kn => .inl ⟨kn.1, fun K hK => stepc enterW_V4 rfl (args4 kn.2.1 kn.2.2.1 kn.2.2.2.1 kn.2.2.2.2.1) (V4_run _ _ _ _ ww) (fun w' hb => hK _ _ ⟨touch_below hb, rfl⟩)⟩),
          (fun Q aq ww own hS hBg fr kn => .inl ⟨kn.1, fun K hK => wp_value (exec_eqA rfl kn.2.1 kn.2.2.1) (hK _ _ ⟨Touch.refl _ _, rfl⟩)⟩),
          (fun Q aq ww own hS hBg fr kn => .inl ⟨trivial, fun K hK => wp_value (exec_pickF (v := .bool (eqAF false b false (v4B (b 0) (b 1) (b 2) (b 3)))) rfl kn.1 kn.2.1) (hK _ _ ⟨Touch.refl _ _, rfl⟩)⟩),
          (fun Q aq ww own hS hBg fr kn => .inl ⟨trivial, fun K hK => wp_value (exec_assign rfl kn.1) (hK _ _ ⟨Touch.refl _ _, rfl⟩)⟩),
          trivial⟩ ?_
    intro vs own u6 hB6 hsz6 kn inj
    have e19 : vs 2 = .bool (eqAF false b false (v4B (b 0) (b 1) (b 2) (b 3))) := kn.1
    clear kn inj hsz6
    simp only [putAll, Act.put, List.setIfInBounds_toArray, List.set_cons_zero, List.set_cons_succ, e19]
    clear e19
    go_wp2_with fail
    go_ret
    exact ⟨by rw [hf]; rfl, hB1.trans (hB6.mono hB1.size)⟩
  · have hf : validF true b = true := valid_iff.2 (.inl rfl)
    refine wp_region3 (Below u1.heap.size u1) u1.heap.size
        ([] : List (Nat × Cont))
        [kv (.pointer (some ⟨g, 0, none⟩)), kv (.bool true), kv (.bool true), kv (undef), kv (undef), kv (undef), kv (undef), kv (undef), kv (undef), kv (undef), kv (undef), kv (undef), kv (undef), kv (undef), kv (undef), kv (undef), kv (undef), kv (undef), kv (.bool true), kv (.bool true)]
        [.none, .none, .none, .none, .none, .none, .none, .none, .none, .none, .none, .none, .none, .none, .none, .none, .none, .none, .none, .none]
        [some 3, some 4, some 5, some 6, some 7, some 8, some 9, some 10, some 11, some 12, some 13, some 14, some 15, some 16, some 17, some 18, some 19, some 20, some 21, some 2]
        [(1, .pointer (some ⟨g, 0, none⟩))]
        [[], [.slot 0], [.slot 1], [.slot 2], [.slot 2], [.slot 2], [.slot 2], [.slot 2], [.slot 2], [.slot 2], [.slot 2], [.slot 2], [.slot 2], [.slot 2], [.slot 2], [.slot 2], [.slot 2], [.slot 2], [.slot 2], [.slot 18]]
        [.slot 19] [3, 4, 5, 6, 7, 8, 9, 10, 11, 12, 13, 14, 15, 16, 17, 18, 19, 20, 21, 2]
        rfl (by kernel_rfl) ⟨rfl, trivial⟩ ((Below.refl _ u1).drew) (Nat.le_refl _) trivial trivial (below_GcW (Nat.le_refl _))
        ⟨
          (fun Q aq ww own hS hBg fr kn => .inl ⟨trivial, fun K hK => wp_value (exec_fadW0 rfl fr.1) (hK _ _ ⟨Touch.refl _ _, rfl⟩)⟩),
          (fun Q aq ww own hS hBg fr kn => .inl ⟨trivial, fun K hK => wp_value (exec_ld rfl kn.1 (ldWb (ad_v (SAt.kept g1 hS)))) (hK _ _ ⟨Touch.refl _ _, rfl⟩)⟩),
          (fun Q aq ww own hS hBg fr kn => .inl ⟨trivial, fun K hK => wp_value (exec_move rfl kn.1) (hK _ _ ⟨Touch.refl _ _, rfl⟩)⟩),
          (fun Q aq ww own hS hBg fr kn => .inr ⟨.inl kn.1, ⟨Touch.refl _ _, rfl⟩⟩),
          (fun Q aq ww own hS hBg fr kn => .inr ⟨.inl kn.1, ⟨Touch.refl _ _, rfl⟩⟩),
          (fun Q aq ww own hS hBg fr kn => .inr ⟨.inl kn.1, ⟨Touch.refl _ _, rfl⟩⟩),
          (fun Q aq ww own hS hBg fr kn => .inr ⟨.inl kn.1, ⟨Touch.refl _ _, rfl⟩⟩),
          (fun Q aq ww own hS hBg fr kn => .inr ⟨.inl kn.1, ⟨Touch.refl _ _, rfl⟩⟩),
          (fun Q aq ww own hS hBg fr kn => .inr ⟨.inl kn.1, ⟨Touch.refl _ _, rfl⟩⟩),
          (fun Q aq ww own hS hBg fr kn => .inr ⟨.inl kn.1, ⟨Touch.refl _ _, rfl⟩⟩),
          (fun Q aq ww own hS hBg fr kn => .inr ⟨.inl kn.1, ⟨Touch.refl _ _, rfl⟩⟩),
          (fun Q aq ww own hS hBg fr kn => .inr ⟨.inl kn.1, ⟨Touch.refl _ _, rfl⟩⟩),
          (fun Q aq ww own hS hBg fr kn => .inr ⟨.inl kn.1, ⟨Touch.refl _ _, rfl⟩⟩),
          (fun Q aq ww own hS hBg fr kn => .inr ⟨.inl kn.1, ⟨Touch.refl _ _, rfl⟩⟩),
          (fun Q aq ww own hS hBg fr kn => .inr ⟨.inl kn.1, ⟨Touch.refl _ _, rfl⟩⟩),
          (fun Q aq ww own hS hBg fr kn => .inr ⟨.inl kn.1, ⟨Touch.refl _ _, rfl⟩⟩),
          (fun Q aq ww own hS hBg fr kn => .inr ⟨.inl kn.1, ⟨Touch.refl _ _, rfl⟩⟩),
          (fun Q aq ww own hS hBg fr kn => .inr ⟨.inl kn.1, ⟨Touch.refl _ _, rfl⟩⟩),
          (fun Q aq ww own hS hBg fr kn => .inl ⟨trivial, fun K hK => wp_value (exec_pick (v := .bool true) rfl kn.1 rfl) (hK _ _ ⟨Touch.refl _ _, rfl⟩)⟩),
          (fun Q aq ww own hS hBg fr kn => .inl ⟨trivial, fun K hK => wp_value (exec_assign rfl kn.1) (hK _ _ ⟨Touch.refl _ _, rfl⟩)⟩),
          trivial⟩ ?_
    intro vs own u6 hB6 hsz6 kn inj
    have e19 : vs 2 = .bool true := kn.1
    clear kn inj hsz6
    simp only [putAll, Act.put, List.setIfInBounds_toArray, List.set_cons_zero, List.set_cons_succ, e19]
    clear e19
    go_wp2_with fail
    go_ret
    exact ⟨by rw [hf]; rfl, hB1.trans (hB6.mono hB1.size)⟩
set_option maxHeartbeats 4000000 in
theorem None_run (v : Bool) (b : Nat → Int) (w : World) : Calls Tryd.prog 36 #[.agg (SC 17 (adV v b))] w fun e w' => e = .returned (.bool (noneF b)) ∧ Below w.heap.size w w' := by
  have hf : noneF b = eqAF v b v (fun _ => 0) := by
    have h1 := none_iff (b := b)
    have h2 := eqAF_iff (v := v) (v' := v) (b := b) (b' := fun _ => 0)
    cases hn : noneF b <;> cases he : eqAF v b v (fun _ => 0)
    · rfl
    · have := h1.2 (h2.1 he).2
      rw [hn] at this
      cases this
    · have := h2.2 ⟨rfl, h1.1 hn⟩
      rw [he] at this
      cases this
    · rfl
  have HF := Hid.mk hf
  clear hf
  go_enter Tryd.func36, Tryd.ntmps36
  go_wp2_with (refine wl_boxO rfl rfl isAddr (by rfl) ?_; intro g u1 hg g1 hB1; refine Hid.out ?_)
  refine Hid.mk ?_
  have c0 := ad_v g1
  go_wp2_with (first | (refine wl_value rfl (look_st rfl isAddr g1 (by rfl)) ?_) | (refine wl_value rfl (exec_fadW0 rfl (by rfl)) ?_) | (refine wl_value rfl (exec_adW1 rfl (by rfl)) ?_) | (refine wl_value rfl (exec_eqA rfl (by rfl) (by rfl)) ?_))
  go_ret
  exact ⟨by rw [HF.out]; rfl, hB1⟩
theorem groupV {b : Nat → Int} : groupF true b = (b 0 == 255) := by
  unfold groupF
  rw [valid_iff.2 (.inl rfl), if_pos rfl, Bool.true_and]
  by_cases e : b 0 = 255
  · rw [decide_eq_true e, e]; rfl
  · rw [decide_eq_false e, beq_eq_false_iff_ne.2 e]
set_option maxHeartbeats 4000000 in
theorem Group_run (v : Bool) (b : Nat → Int) (w : World) : Calls Tryd.prog 37 #[.agg (SC 17 (adV v b))] w fun e w' => e = .returned (.bool (groupF v b)) ∧ Below w.heap.size w w' := by
  go_enter Tryd.func37, Tryd.ntmps37
  go_wp2_with (refine wl_boxO rfl rfl isAddr (by rfl) ?_; intro g u1 hg g1 hB1; refine Hid.out ?_)
  refine Hid.mk ?_
  have c0 := ad_v g1
  have HB := Hid.mk (ad_b g1 0 (by decide))
  cases v
  · obtain ⟨r, hr⟩ : ∃ r, validF false b = r := ⟨_, rfl⟩
    have HR := Hid.mk hr
    have HG : Hid (groupF false b = (r && decide (224 ≤ b 0))) := Hid.mk (by unfold groupF; rw [hr, if_neg (by decide)])
    clear hr
    go_wp2_with (first | (refine wl_value rfl (exec_fadW0 rfl (by rfl)) ?_) | (refine wl_value rfl (look_st rfl isAddr g1 (by rfl)) ?_) | (go_at_call 10; refine (Valid_run false b _).mono ?_; rintro e w2 ⟨rfl, hB2⟩; simp only [HR.out]; refine Hid.out ?_))
    refine Hid.mk ?_
    have hB3 := hB1.trans (hB2.mono hB1.size)
    have c1 : w2.cell? ⟨g, 1 + 0, none⟩ = some (.int .u8 (b 0)) := (hB2.cell (SAt.lt g1)).trans HB.out
    cases r
    · go_wp2_with fail
      go_ret
      exact ⟨by rw [HG.out]; rfl, hB3⟩
    · by_cases h : 224 ≤ b 0
      · go_wp2_with (first | (refine wl_value rfl (exec_fadW1 rfl (by rfl)) ?_) | (refine wl_value rfl (exec_ixW16 (k := 0) rfl (by rfl) (by rfl) (by decide)) ?_) | (refine wl_value rfl (exec_ld rfl (by rfl) (ldW8 c1)) ?_))
        go_ret
        exact ⟨by rw [HG.out, decide_eq_true (by omega)]; rfl, hB3⟩
      · go_wp2_with (first | (refine wl_value rfl (exec_fadW1 rfl (by rfl)) ?_) | (refine wl_value rfl (exec_ixW16 (k := 0) rfl (by rfl) (by rfl) (by decide)) ?_) | (refine wl_value rfl (exec_ld rfl (by rfl) (ldW8 c1)) ?_))
        go_ret
        exact ⟨by rw [HG.out, decide_eq_false (by omega)]; rfl, hB3⟩
  · have HG := Hid.mk (groupV (b := b))
    have c1 := HB.out
    go_wp2_with (first | (refine wl_value rfl (exec_fadW0 rfl (by rfl)) ?_) | (refine wl_value rfl (exec_fadW1 rfl (by rfl)) ?_) | (refine wl_value rfl (exec_ixW16 (k := 0) rfl (by rfl) (by rfl) (by decide)) ?_) | (refine wl_value rfl (exec_ld rfl (by rfl) (ldW8 c1)) ?_))
    go_ret
    exact ⟨by rw [HG.out]; rfl, hB1⟩
theorem sl16 (g : Nat) (w : World) : (Instr.sliceAt 28 (.pointer (some ⟨g, 1, none⟩)) none none none).run Tryd.prog w = .ok (.slice (some ⟨g, 1, none⟩) 16 16) w := by simp [go_sem]
theorem sl16h (g : Nat) (w : World) : (Instr.sliceAt 28 (.pointer (some ⟨g, 1, none⟩)) none (some (.int .i64 4)) none).run Tryd.prog w = .ok (.slice (some ⟨g, 1, none⟩) 4 16) w := by simp [go_sem]
set_option maxHeartbeats 4000000 in
theorem Bytes_run (v : Bool) (b : Nat → Int) (w : World) (hb : Byts 16 b) : Calls Tryd.prog 63 #[.agg (SC 17 (adV v b))] w fun e w' => e = .returned (.string (bytT v b)) ∧ Below w.heap.size w w' := by
  obtain ⟨r, hr⟩ : ∃ r, validF v b = r := ⟨_, rfl⟩
  have HR := Hid.mk hr
  have HT : Hid (bytT v b = if r = true then mkS (if v = true then 16 else 4) b else ByteArray.empty) := Hid.mk (by unfold bytT; rw [hr])
  clear hr
  go_enter Tryd.func63, Tryd.ntmps63
  go_wp2_with (refine wl_boxO rfl rfl isAddr (by rfl) ?_; intro g u1 hg g1 hB1; refine Hid.out ?_)
  refine Hid.mk ?_
  go_wp2_with (first | (refine wl_value rfl (look_st rfl isAddr g1 (by rfl)) ?_) | (go_at_call 10; refine (Valid_run v b _).mono ?_; rintro e w2 ⟨rfl, hB2⟩; simp only [HR.out]; refine Hid.out ?_))
  refine Hid.mk ?_
  have hB3 := hB1.trans (hB2.mono hB1.size)
  have g2 := SAt.kept g1 hB2
  have c0 := ad_v g2
  cases r
  · go_wp2_with fail
    go_ret
    exact ⟨by rw [HT.out]; rfl, hB3⟩
  · cases v
    · have hcv := str_cells g 1 16 w2 4 b (fun j hj => ad_b g2 j (by omega)) (fun j hj => hb j (by omega))
      go_wp2_with (first | (refine wl_value rfl (exec_fadW0 rfl (by rfl)) ?_) | (refine wl_value rfl (exec_fadW1 rfl (by rfl)) ?_) | (refine wl_value rfl (exec_slH rfl (by rfl) (by rfl) (sl16h g _)) ?_) | (refine wl_value rfl (exec_conv rfl (by rfl) hcv) ?_))
      go_ret
      exact ⟨by rw [HT.out]; rfl, hB3⟩
    · have hcv := str_cells g 1 16 w2 16 b (fun j hj => ad_b g2 j hj) (fun j hj => hb j hj)
      go_wp2_with (first | (refine wl_value rfl (exec_fadW0 rfl (by rfl)) ?_) | (refine wl_value rfl (exec_fadW1 rfl (by rfl)) ?_) | (refine wl_value rfl (exec_sl rfl (by rfl) (sl16 g _)) ?_) | (refine wl_value rfl (exec_conv rfl (by rfl) hcv) ?_))
      go_ret
      exact ⟨by rw [HT.out]; rfl, hB3⟩
end Go.Proofs.YtojekoakgpkkdabDoor

/-
  Own text. The document's Pseudo.
-/
namespace Go.Proofs.YtojekoakgpkkdabDoor
open Go.RowKit Go.Proofs Go.Lib
set_option maxRecDepth 100000
/-- A pseudo header. -/
def pseT (v1 : Bool) (b1 : Nat → Int) (v2 : Bool) (b2 : Nat → Int) (pr sz : Nat) : ByteArray := if v1 = true then bytT v1 b1 ++ bytT v2 b2 ++ putT sz 4 ++ putT pr 4 else bytT v1 b1 ++ bytT v2 b2 ++ putT pr 2 ++ putT sz 2
def pseOk (v1 : Bool) (b1 : Nat → Int) (v2 : Bool) (b2 : Nat → Int) (pr sz : Int) : Prop := validF v1 b1 = true ∧ validF v2 b2 = true ∧ v1 = v2 ∧ 0 ≤ pr ∧ pr ≤ 255 ∧ 0 ≤ sz ∧ sz ≤ 65535
theorem exec_cvIU {a : Act} {o : Oper} {w : World} {x : Operand} (ho : o.op = .convert 3 79 x) {m : Nat} (hx : a.eval x = .int .i64 (m : Int)) (h1 : m < 1000000000) : (execOp a.eval o).run Tryd.prog w = .ok (.value (.int .u64 (m : Int))) w := by
  have e : IntKind.u64.wrap (m : Int) = (m : Int) := by rw [IntKind.wrap_u64]; omega
  unfold execOp
  simp only [ho, hx]
  simp [go_sem, e]
end Go.Proofs.YtojekoakgpkkdabDoor

/-
  Own text. The program's pseudo header.
-/
namespace Go.Proofs.YtojekoakgpkkdabDoor
open Go.RowKit Go.Proofs
set_option maxRecDepth 100000
theorem put_four {n : Nat} (hn : n < 256) : putT n 4 = ⟨#[0, 0, 0]⟩ ++ putT n 1 := by
  have h0 : putF n 4 0 = 0 := by unfold putF; simp; omega
  have h1 : putF n 4 1 = 0 := by unfold putF; simp; omega
  have h2 : putF n 4 2 = 0 := by unfold putF; simp; omega
  have h3 : putF n 4 3 = putF n 1 0 := by unfold putF; simp
  apply same_ext
  · rw [ByteArray.size_append]
    exact mkS_size _ _
  · intro j hj
    have hs : (putT n 4).size = 4 := mkS_size _ _
    rw [hs] at hj
    have ht : txt (putT n 4) j = putF n 4 j := txt_mkS (putF_b n 4 j) hj
    have ht1 : txt (putT n 1) 0 = putF n 1 0 := txt_mkS (putF_b n 1 0) (by decide)
    rw [ht, txt_append]
    match j, hj with
    | 0, _ => rw [h0]; rfl
    | 1, _ => rw [h1]; rfl
    | 2, _ => rw [h2]; rfl
    | 3, _ => rw [h3, ← ht1]; rfl
theorem put_two {n : Nat} (hn : n < 256) : putT n 2 = ⟨#[0]⟩ ++ putT n 1 := by
  have h0 : putF n 2 0 = 0 := by unfold putF; simp; omega
  have h3 : putF n 2 1 = putF n 1 0 := by unfold putF; simp
  apply same_ext
  · rw [ByteArray.size_append]
    exact mkS_size _ _
  · intro j hj
    have hs : (putT n 2).size = 2 := mkS_size _ _
    rw [hs] at hj
    have ht : txt (putT n 2) j = putF n 2 j := txt_mkS (putF_b n 2 j) hj
    have ht1 : txt (putT n 1) 0 = putF n 1 0 := txt_mkS (putF_b n 1 0) (by decide)
    rw [ht, txt_append]
    match j, hj with
    | 0, _ => rw [h0]; rfl
    | 1, _ => rw [h3, ← ht1]; rfl
theorem enterW_ByC (args : Array Value) (w : World) : (callFunc 63 args).run Tryd.prog w = .ok (.enter 63 args) w := by kernel_rfl
theorem enterW_PuC (args : Array Value) (w : World) : (callFunc 32 args).run Tryd.prog w = .ok (.enter 32 args) w := by kernel_rfl
set_option maxHeartbeats 16000000 in
theorem Pseudo_no (v1 : Bool) (b1 : Nat → Int) (v2 : Bool) (b2 : Nat → Int) (pr sz : Int) (w : World) (h : ¬ pseOk v1 b1 v2 b2 pr sz) : Calls Tryd.prog 55 #[.agg (SC 17 (adV v1 b1)), .agg (SC 17 (adV v2 b2)), .int .i64 pr, .int .i64 sz] w fun e w' => e = .returned (.string ByteArray.empty) ∧ Below w.heap.size w w' := by
  unfold pseOk at h
  have HR1 := Hid.mk (Valid_run v1 b1)
  have HR2 := Hid.mk (Valid_run v2 b2)
  generalize validF v1 b1 = r1 at *
  generalize validF v2 b2 = r2 at *
  have HH := Hid.mk h
  clear h
  go_enter Tryd.func55, Tryd.ntmps55
  go_wp2_with (refine wl_boxWW rfl rfl rfl rfl isAddr isAddr (by rfl) (fun u => by rfl) ?_; intro g1 g2 u2 hg1 hg2 q1a q2 hB2; refine Hid.out ?_)
  refine Hid.mk ?_
  go_wp2_with (refine wl_value rfl (look_st rfl isAddr q1a (by rfl)) ?_)
  refine (HR1.out u2).mono ?_
  rintro e u3 ⟨rfl, hB3⟩
  have q2b := SAt.kept q2 hB3
  have hBc : Below w.heap.size w u3 := hB2.trans (hB3.mono hB2.size)
  cases r1
  · go_wp2_with fail
    go_ret
    exact ⟨rfl, hBc⟩
  · go_wp2_with (refine wl_value rfl (look_st rfl isAddr q2b (by rfl)) ?_)
    refine (HR2.out u3).mono ?_
    rintro e u4 ⟨rfl, hB4⟩
    have c1 := ad_v (SAt.kept (SAt.kept q1a hB3) hB4)
    have c2 := ad_v (SAt.kept q2b hB4)
    have hBd : Below w.heap.size w u4 := hBc.trans (hB4.mono hBc.size)
    clear HR1 HR2 q2 q1a q2b hB2 hB3 hB4
    cases r2
    · go_wp2_with fail
      go_ret
      exact ⟨rfl, hBd⟩
    · by_cases hv : v1 = v2
      · subst hv
        have h' : pr < 0 ∨ 255 < pr ∨ sz < 0 ∨ 65535 < sz := by
          have hh := HH.out
          simp at hh
          omega
        by_cases e1 : pr < 0
        · cases v1 <;> (go_wp2_with fail; go_ret; exact ⟨rfl, hBd⟩)
        · by_cases e2 : 255 < pr
          · cases v1 <;> (go_wp2_with fail; go_ret; exact ⟨rfl, hBd⟩)
          · by_cases e3 : sz < 0
            · cases v1 <;> (go_wp2_with fail; go_ret; exact ⟨rfl, hBd⟩)
            · have e4 : 65535 < sz := by omega
              cases v1 <;> (go_wp2_with fail; go_ret; exact ⟨rfl, hBd⟩)
      · cases v1 <;> cases v2 <;> first | exact absurd rfl hv | (go_wp2_with fail; go_ret; exact ⟨rfl, hBd⟩)
set_option maxHeartbeats 16000000 in
theorem Pseudo_run (v : Bool) (b1 : Nat → Int) (b2 : Nat → Int) (pr sz : Nat) (w : World) (hb1 : Byts 16 b1) (hb2 : Byts 16 b2) (h1 : validF v b1 = true) (h2 : validF v b2 = true) (hpr : pr ≤ 255) (hsz : sz ≤ 65535) : Calls Tryd.prog 55 #[.agg (SC 17 (adV v b1)), .agg (SC 17 (adV v b2)), .int .i64 (pr : Int), .int .i64 (sz : Int)] w fun e w' => e = .returned (.string (pseT v b1 v b2 pr sz)) ∧ Below w.heap.size w w' := by
  have HR1 : Hid (∀ ww, Calls Tryd.prog 10 #[.agg (SC 17 (adV v b1))] ww fun e w' => e = .returned (.bool true) ∧ Below ww.heap.size ww w') := Hid.mk (fun ww => by rw [← h1]; exact Valid_run v b1 ww)
  have HR2 : Hid (∀ ww, Calls Tryd.prog 10 #[.agg (SC 17 (adV v b2))] ww fun e w' => e = .returned (.bool true) ∧ Below ww.heap.size ww w') := Hid.mk (fun ww => by rw [← h2]; exact Valid_run v b2 ww)
  have HB1 : Hid (∀ ww, Calls Tryd.prog 63 #[.agg (SC 17 (adV v b1))] ww fun e w' => e = .returned (.string (bytT v b1)) ∧ Below ww.heap.size ww w') := Hid.mk (fun ww => Bytes_run v b1 ww hb1)
  have HB2 : Hid (∀ ww, Calls Tryd.prog 63 #[.agg (SC 17 (adV v b2))] ww fun e w' => e = .returned (.string (bytT v b2)) ∧ Below ww.heap.size ww w') := Hid.mk (fun ww => Bytes_run v b2 ww hb2)
  have HK : Hid (∀ ww, Calls Tryd.prog 32 #[.int .u64 (pr : Int), .int .i64 1] ww fun e w' => e = .returned (.string (putT pr 1)) ∧ Below ww.heap.size ww w') := Hid.mk (fun ww => Put_run pr 1 ww (by decide) (by decide))
  have s1 := bytT_size v b1
  have s2 := bytT_size v b2
  have sk : (putT pr 1).size = 1 := mkS_size _ _
  have HT4 : Hid (pseT true b1 true b2 pr sz = bytT true b1 ++ bytT true b2 ++ putT sz 4 ++ ⟨#[0, 0, 0]⟩ ++ putT pr 1) := Hid.mk (by
    unfold pseT
    rw [if_pos rfl, put_four (n := pr) (by omega), ← ByteArray.append_assoc])
  have HT2 : Hid (pseT false b1 false b2 pr sz = bytT false b1 ++ bytT false b2 ++ ⟨#[0]⟩ ++ putT pr 1 ++ putT sz 2) := Hid.mk (by
    unfold pseT
    rw [if_neg (by decide), put_two (n := pr) (by omega), ← ByteArray.append_assoc])
  have hz4 : (putT sz 4).size = 4 := mkS_size _ _
  have hz2 : (putT sz 2).size = 2 := mkS_size _ _
  have i1 : ¬ (pr : Int) < 0 := by omega
  have i2 : ¬ (255 : Int) < (pr : Int) := by omega
  have i3 : ¬ (sz : Int) < 0 := by omega
  have i4 : ¬ (65535 : Int) < (sz : Int) := by omega
  go_enter Tryd.func55, Tryd.ntmps55
  go_wp2_with (refine wl_boxWW rfl rfl rfl rfl isAddr isAddr (by rfl) (fun u => by rfl) ?_; intro g1 g2 u2 hg1 hg2 q1a q2a hB2; refine Hid.out ?_)
  refine Hid.mk ?_
  go_wp2_with (refine wl_value rfl (look_st rfl isAddr q1a (by rfl)) ?_)
  refine (HR1.out u2).mono ?_
  rintro e u3 ⟨rfl, hB3⟩
  have q1b := SAt.kept q1a hB3
  have q2b := SAt.kept q2a hB3
  have hBc : Below w.heap.size w u3 := hB2.trans (hB3.mono hB2.size)
  go_wp2_with (refine wl_value rfl (look_st rfl isAddr q2b (by rfl)) ?_)
  refine (HR2.out u3).mono ?_
  rintro e u4 ⟨rfl, hB4⟩
  have q1 := SAt.kept q1b hB4
  have q2 := SAt.kept q2b hB4
  have c1 := ad_v q1
  have c2 := ad_v q2
  have hBd : Below w.heap.size w u4 := hBc.trans (hB4.mono hBc.size)
  clear HR1 HR2 q1a q1b q2a q2b hB2 hB3 hB4 hBc
  cases v
  · have HC0 : Hid ((bytT false b1).size + (bytT false b2).size ≤ 9223372036854775807) := Hid.mk (by omega)
    obtain ⟨t1, ht1⟩ : ∃ t1, bytT false b1 = t1 := ⟨_, rfl⟩
    obtain ⟨t2, ht2⟩ : ∃ t2, bytT false b2 = t2 := ⟨_, rfl⟩
    obtain ⟨k1, hk1⟩ : ∃ k1, putT pr 1 = k1 := ⟨_, rfl⟩
    rw [ht1] at HC0 HB1 s1
    rw [ht2] at HC0 HB2 s2
    rw [hk1] at HK sk
    rw [ht1, ht2, hk1] at HT2
    clear ht1 ht2 hk1 HT4
    go_upto_region 3 with (first | (refine wl_value rfl (exec_fadW0 rfl (by rfl)) ?_) | (refine wl_value rfl (exec_ld rfl (by rfl) (ldWb c1)) ?_) | (refine wl_value rfl (exec_ld rfl (by rfl) (ldWb c2)) ?_))
    refine wp_region3 (Below u4.heap.size u4) u4.heap.size
        ([] : List (Nat × Cont))
        [kv (.agg (SC 17 (adV false b1))), kv (.string t1), kv (.agg (SC 17 (adV false b2))), kv (.string t2), kv (.string (t1 ++ t2)), kv (.int .i64 (pr : Int)), kv (.int .u64 (pr : Int)), kv (.string k1), kv (.string (t1 ++ t2)), kv (.string k1)]
        [.none, .none, .none, .none, .none, .none, .none, .none, .none, .none]
        [some 42, some 43, some 44, some 45, some 46, some 47, some 48, some 49, some 9, some 10]
        [(4, .pointer (some ⟨g1, 0, none⟩)), (5, .pointer (some ⟨g2, 0, none⟩)), (2, .int .i64 (pr : Int))]
        [[], [.slot 0], [], [.slot 2], [.slot 1, .slot 3], [], [.slot 5], [.slot 6], [.slot 4], [.slot 7]]
        [.slot 8, .slot 9] [42, 43, 44, 45, 46, 47, 48, 49, 9, 10]
        rfl (by kernel_rfl) ⟨rfl, rfl, rfl, trivial⟩ ((Below.refl _ u4).drew) (Nat.le_refl _) trivial trivial (below_GcW (Nat.le_refl _))
        ⟨
          (fun Q aq ww own hS hBg fr kn => .inl ⟨trivial, fun K hK => wp_value (look_st rfl isAddr (SAt.kept q1 hS) fr.1) (hK _ _ ⟨Touch.refl _ _, rfl⟩)⟩),
          (fun Q aq ww own hS hBg fr kn => .inl ⟨trivial, fun K hK => stepc enterW_ByC rfl (args1 kn.1) (HB1.out ww) (fun w' hb => hK _ _ ⟨touch_below hb, rfl⟩)⟩),
          (fun Q aq ww own hS hBg fr kn => .inl ⟨trivial, fun K hK => wp_value (look_st rfl isAddr (SAt.kept q2 hS) fr.2.1) (hK _ _ ⟨Touch.refl _ _, rfl⟩)⟩),
          (fun Q aq ww own hS hBg fr kn => .inl ⟨trivial, fun K hK => stepc enterW_ByC rfl (args1 kn.1) (HB2.out ww) (fun w' hb => hK _ _ ⟨touch_below hb, rfl⟩)⟩),
          (fun Q aq ww own hS hBg fr kn => .inl ⟨trivial, fun K hK => wp_value (exec_catS rfl kn.1 kn.2.1 HC0.out) (hK _ _ ⟨Touch.refl _ _, rfl⟩)⟩),
          (fun Q aq ww own hS hBg fr kn => .inl ⟨trivial, fun K hK => wp_value (exec_move rfl fr.2.2.1) (hK _ _ ⟨Touch.refl _ _, rfl⟩)⟩),
          (fun Q aq ww own hS hBg fr kn => .inl ⟨trivial, fun K hK => wp_value (exec_cvIU (m := pr) rfl kn.1 (by omega)) (hK _ _ ⟨Touch.refl _ _, rfl⟩)⟩),
          (fun Q aq ww own hS hBg fr kn => .inl ⟨trivial, fun K hK => stepc enterW_PuC rfl (args2 kn.1 rfl) (HK.out ww) (fun w' hb => hK _ _ ⟨touch_below hb, rfl⟩)⟩),
          (fun Q aq ww own hS hBg fr kn => .inl ⟨trivial, fun K hK => wp_value (exec_assign rfl kn.1) (hK _ _ ⟨Touch.refl _ _, rfl⟩)⟩),
          (fun Q aq ww own hS hBg fr kn => .inl ⟨trivial, fun K hK => wp_value (exec_assign rfl kn.1) (hK _ _ ⟨Touch.refl _ _, rfl⟩)⟩),
          trivial⟩ ?_
    intro vs own u6 hB6 hsz6 kn inj
    have e9 : vs 9 = .string (t1 ++ t2) := kn.1
    have e10 : vs 10 = .string k1 := kn.2.1
    clear kn inj hsz6
    simp only [putAll, Act.put, List.setIfInBounds_toArray, List.set_cons_zero, List.set_cons_succ, e9, e10]
    clear e9 e10
    have hBe := hBd.trans (hB6.mono hBd.size)
    have c3 := ad_v (SAt.kept q1 hB6)
    obtain ⟨z2, hz2e⟩ : ∃ z2, putT sz 2 = z2 := ⟨_, rfl⟩
    rw [hz2e] at HT2 hz2
    have HP2 : Hid (∀ ww, Calls Tryd.prog 32 #[.int .u64 (sz : Int), .int .i64 2] ww fun e w' => e = .returned (.string z2) ∧ Below ww.heap.size ww w') := Hid.mk (fun ww => by rw [← hz2e]; exact Put_run sz 2 ww (by decide) (by decide))
    clear hz2e
    have hl3 : (⟨#[0]⟩ : ByteArray).size = 1 := rfl
    have C1 : Hid ((t1 ++ t2).size + (⟨#[0]⟩ : ByteArray).size ≤ 9223372036854775807) := Hid.mk (by rw [ByteArray.size_append, hl3]; omega)
    have C2 : Hid ((t1 ++ t2 ++ ⟨#[0]⟩).size + k1.size ≤ 9223372036854775807) := Hid.mk (by rw [ByteArray.size_append, ByteArray.size_append, hl3]; omega)
    have C3 : Hid ((t1 ++ t2 ++ ⟨#[0]⟩ ++ k1).size + z2.size ≤ 9223372036854775807) := Hid.mk (by rw [ByteArray.size_append, ByteArray.size_append, ByteArray.size_append, hl3]; omega)
    go_wp2_with (first | (refine wl_value rfl (exec_fadW0 rfl (by rfl)) ?_) | (refine wl_value rfl (exec_ld rfl (by rfl) (ldWb c3)) ?_) | (refine wl_value rfl (exec_cvIU (m := sz) rfl (by rfl) (by omega)) ?_) | (refine wl_value rfl (exec_catS (t := ⟨#[0]⟩) rfl (by rfl) (by rfl) C1.out) ?_) | (refine wl_value rfl (exec_catS rfl (by rfl) (by rfl) C2.out) ?_) | (go_at_call 32; refine (HP2.out _).mono ?_; rintro e u7 ⟨rfl, hB7⟩; refine Hid.out ?_))
    refine Hid.mk ?_
    go_wp2_with (first | (refine wl_value rfl (exec_catS rfl (by rfl) (by rfl) C3.out) ?_))
    go_ret
    exact ⟨by rw [HT2.out]; rfl, hBe.trans (hB7.mono hBe.size)⟩
  · have HC0 : Hid ((bytT true b1).size + (bytT true b2).size ≤ 9223372036854775807) := Hid.mk (by omega)
    obtain ⟨t1, ht1⟩ : ∃ t1, bytT true b1 = t1 := ⟨_, rfl⟩
    obtain ⟨t2, ht2⟩ : ∃ t2, bytT true b2 = t2 := ⟨_, rfl⟩
    obtain ⟨k1, hk1⟩ : ∃ k1, putT pr 1 = k1 := ⟨_, rfl⟩
    rw [ht1] at HC0 HB1 s1
    rw [ht2] at HC0 HB2 s2
    rw [hk1] at HK sk
    rw [ht1, ht2, hk1] at HT4
    clear ht1 ht2 hk1 HT2
    go_upto_region 3 with (first | (refine wl_value rfl (exec_fadW0 rfl (by rfl)) ?_) | (refine wl_value rfl (exec_ld rfl (by rfl) (ldWb c1)) ?_) | (refine wl_value rfl (exec_ld rfl (by rfl) (ldWb c2)) ?_))
    refine wp_region3 (Below u4.heap.size u4) u4.heap.size
        ([] : List (Nat × Cont))
        [kv (.agg (SC 17 (adV true b1))), kv (.string t1), kv (.agg (SC 17 (adV true b2))), kv (.string t2), kv (.string (t1 ++ t2)), kv (.int .i64 (pr : Int)), kv (.int .u64 (pr : Int)), kv (.string k1), kv (.string (t1 ++ t2)), kv (.string k1)]
        [.none, .none, .none, .none, .none, .none, .none, .none, .none, .none]
        [some 42, some 43, some 44, some 45, some 46, some 47, some 48, some 49, some 9, some 10]
        [(4, .pointer (some ⟨g1, 0, none⟩)), (5, .pointer (some ⟨g2, 0, none⟩)), (2, .int .i64 (pr : Int))]
        [[], [.slot 0], [], [.slot 2], [.slot 1, .slot 3], [], [.slot 5], [.slot 6], [.slot 4], [.slot 7]]
        [.slot 8, .slot 9] [42, 43, 44, 45, 46, 47, 48, 49, 9, 10]
        rfl (by kernel_rfl) ⟨rfl, rfl, rfl, trivial⟩ ((Below.refl _ u4).drew) (Nat.le_refl _) trivial trivial (below_GcW (Nat.le_refl _))
        ⟨
          (fun Q aq ww own hS hBg fr kn => .inl ⟨trivial, fun K hK => wp_value (look_st rfl isAddr (SAt.kept q1 hS) fr.1) (hK _ _ ⟨Touch.refl _ _, rfl⟩)⟩),
          (fun Q aq ww own hS hBg fr kn => .inl ⟨trivial, fun K hK => stepc enterW_ByC rfl (args1 kn.1) (HB1.out ww) (fun w' hb => hK _ _ ⟨touch_below hb, rfl⟩)⟩),
          (fun Q aq ww own hS hBg fr kn => .inl ⟨trivial, fun K hK => wp_value (look_st rfl isAddr (SAt.kept q2 hS) fr.2.1) (hK _ _ ⟨Touch.refl _ _, rfl⟩)⟩),
          (fun Q aq ww own hS hBg fr kn => .inl ⟨trivial, fun K hK => stepc enterW_ByC rfl (args1 kn.1) (HB2.out ww) (fun w' hb => hK _ _ ⟨touch_below hb, rfl⟩)⟩),
          (fun Q aq ww own hS hBg fr kn => .inl ⟨trivial, fun K hK => wp_value (exec_catS rfl kn.1 kn.2.1 HC0.out) (hK _ _ ⟨Touch.refl _ _, rfl⟩)⟩),
          (fun Q aq ww own hS hBg fr kn => .inl ⟨trivial, fun K hK => wp_value (exec_move rfl fr.2.2.1) (hK _ _ ⟨Touch.refl _ _, rfl⟩)⟩),
          (fun Q aq ww own hS hBg fr kn => .inl ⟨trivial, fun K hK => wp_value (exec_cvIU (m := pr) rfl kn.1 (by omega)) (hK _ _ ⟨Touch.refl _ _, rfl⟩)⟩),
          (fun Q aq ww own hS hBg fr kn => .inl ⟨trivial, fun K hK => stepc enterW_PuC rfl (args2 kn.1 rfl) (HK.out ww) (fun w' hb => hK _ _ ⟨touch_below hb, rfl⟩)⟩),
          (fun Q aq ww own hS hBg fr kn => .inl ⟨trivial, fun K hK => wp_value (exec_assign rfl kn.1) (hK _ _ ⟨Touch.refl _ _, rfl⟩)⟩),
          (fun Q aq ww own hS hBg fr kn => .inl ⟨trivial, fun K hK => wp_value (exec_assign rfl kn.1) (hK _ _ ⟨Touch.refl _ _, rfl⟩)⟩),
          trivial⟩ ?_
    intro vs own u6 hB6 hsz6 kn inj
    have e9 : vs 9 = .string (t1 ++ t2) := kn.1
    have e10 : vs 10 = .string k1 := kn.2.1
    clear kn inj hsz6
    simp only [putAll, Act.put, List.setIfInBounds_toArray, List.set_cons_zero, List.set_cons_succ, e9, e10]
    clear e9 e10
    have hBe := hBd.trans (hB6.mono hBd.size)
    have c3 := ad_v (SAt.kept q1 hB6)
    obtain ⟨z4, hz4e⟩ : ∃ z4, putT sz 4 = z4 := ⟨_, rfl⟩
    rw [hz4e] at HT4 hz4
    have HP4 : Hid (∀ ww, Calls Tryd.prog 32 #[.int .u64 (sz : Int), .int .i64 4] ww fun e w' => e = .returned (.string z4) ∧ Below ww.heap.size ww w') := Hid.mk (fun ww => by rw [← hz4e]; exact Put_run sz 4 ww (by decide) (by decide))
    clear hz4e
    have hl3 : (⟨#[0, 0, 0]⟩ : ByteArray).size = 3 := rfl
    have C1 : Hid ((t1 ++ t2).size + z4.size ≤ 9223372036854775807) := Hid.mk (by rw [ByteArray.size_append]; omega)
    have C2 : Hid ((t1 ++ t2 ++ z4).size + (⟨#[0, 0, 0]⟩ : ByteArray).size ≤ 9223372036854775807) := Hid.mk (by rw [ByteArray.size_append, ByteArray.size_append, hl3]; omega)
    have C3 : Hid ((t1 ++ t2 ++ z4 ++ ⟨#[0, 0, 0]⟩).size + k1.size ≤ 9223372036854775807) := Hid.mk (by rw [ByteArray.size_append, ByteArray.size_append, ByteArray.size_append, hl3]; omega)
    go_wp2_with (first | (refine wl_value rfl (exec_fadW0 rfl (by rfl)) ?_) | (refine wl_value rfl (exec_ld rfl (by rfl) (ldWb c3)) ?_) | (refine wl_value rfl (exec_cvIU (m := sz) rfl (by rfl) (by omega)) ?_) | (go_at_call 32; refine (HP4.out _).mono ?_; rintro e u7 ⟨rfl, hB7⟩; refine Hid.out ?_))
    refine Hid.mk ?_
    go_wp2_with (first | (refine wl_value rfl (exec_catS rfl (by rfl) (by rfl) C1.out) ?_) | (refine wl_value rfl (exec_catS (t := ⟨#[0, 0, 0]⟩) rfl (by rfl) (by rfl) C2.out) ?_) | (refine wl_value rfl (exec_catS rfl (by rfl) (by rfl) C3.out) ?_))
    go_ret
    exact ⟨by rw [HT4.out]; rfl, hBe.trans (hB7.mono hBe.size)⟩
end Go.Proofs.YtojekoakgpkkdabDoor

/-
  Own text. IP packets as plain data: what may be, its bytes, how bytes are read. Names no function of the program.
-/
namespace Go.Proofs.YtojekoakgpkkdabDoor
open Go.RowKit Go.Proofs
set_option maxRecDepth 100000
theorem get_put (s : ByteArray) (N z : Nat) (hz : z ≤ 8) : ∀ i, i ≤ z → getN (txt (s ++ putT N z)) s.size i = N / 256 ^ (z - i) % 256 ^ i
  | 0, _ => by
    unfold getN
    rw [Nat.pow_zero, Nat.mod_one]
  | i + 1, hi => by
    have ih := get_put s N z hz i (by omega)
    have ht : txt (s ++ putT N z) (s.size + i) = putF N z i := by
      rw [txt_append, if_neg (by omega), Nat.add_sub_cancel_left]
      exact txt_mkS (putF_b N z i) (by omega)
    show getN (txt (s ++ putT N z)) s.size i * 256 + (txt (s ++ putT N z) (s.size + i)).toNat = _
    rw [ih, ht]
    unfold putF
    rw [Int.toNat_natCast, show z - 1 - i = z - (i + 1) by omega, show z - i = z - (i + 1) + 1 by omega, Nat.pow_succ, ← Nat.div_div_eq_div_mul, Nat.pow_succ, Nat.mul_comm (256 ^ i) 256, Nat.mod_mul]
    omega
structure Ex where
  kind : Int
  body : ByteArray
structure Pk where
  sv : Bool
  sb : Nat → Int
  dv : Bool
  db : Nat → Int
  proto : Int
  hop : Int
  cls : Int
  id : Int
  off : Int
  more : Bool
  still : Bool
  opts : ByteArray
  flow : Int
  exts : List Ex
  cut : Bool
  pay : ByteArray
def upB (n m : Int) : Bool := decide (0 ≤ n) && decide (n ≤ m)
def isEx (k : Int) : Bool := k == 0 || k == 43 || k == 60
def isHd (k : Int) : Bool := isEx k || k == 44
def mayB (k : Int) (i : Nat) : Bool := decide (i < 4) && (k != 0 || decide (i = 0))
def exOk (x : Ex) (i : Nat) : Bool := isEx x.kind && mayB x.kind i && decide (x.body.size % 8 = 6) && decide (x.body.size ≤ 2046)
def exsOk : List Ex → Nat → Bool
  | [], _ => true
  | x :: l, i => exOk x i && exsOk l (i + 1)
def rgt4 (P : Pk) : Bool := upB P.id 65535 && decide (P.opts.size % 4 = 0) && decide (P.opts.size ≤ 40) && P.flow == 0 && P.exts.isEmpty && !P.cut
def rgt6 (P : Pk) : Bool := upB P.flow 1048575 && decide (P.opts.size = 0) && !P.still && exsOk P.exts 0 && !isHd P.proto && upB P.id 4294967295 && (P.cut || (P.id == 0 && P.off == 0 && !P.more))
def rgtP (P : Pk) : Bool := validF P.sv P.sb && validF P.dv P.db && (P.sv == P.dv) && upB P.proto 255 && upB P.hop 255 && upB P.cls 255 && upB P.off 65528 && P.off % 8 == 0 && (if P.sv = true then rgt6 P else rgt4 P)
def exLen : List Ex → Nat
  | [] => 0
  | x :: l => 2 + x.body.size + exLen l
def headP (P : Pk) : Nat := if P.sv = true then 40 + exLen P.exts + (if P.cut = true then 8 else 0) else 20 + P.opts.size
def fitP (P : Pk) : Bool := if P.sv = true then decide (headP P + P.pay.size ≤ 65575) else decide (headP P + P.pay.size ≤ 65535)
def bN (b : Bool) (n : Nat) : Nat := if b = true then n else 0
def tailK (P : Pk) : Int := if P.cut = true then 44 else P.proto
def nextK (P : Pk) : List Ex → Int
  | [] => tailK P
  | x :: _ => x.kind
def cuB (P : Pk) : ByteArray := putT P.proto.toNat 1 ++ putT 0 1 ++ putT (P.off.toNat + bN P.more 1) 2 ++ putT P.id.toNat 4
def exB (P : Pk) : List Ex → ByteArray
  | [] => if P.cut = true then cuB P else ByteArray.empty
  | x :: l => putT (nextK P l).toNat 1 ++ putT ((2 + x.body.size) / 8 - 1) 1 ++ x.body ++ exB P l
def hd6 (P : Pk) : ByteArray := putT (1610612736 + P.cls.toNat * 1048576 + P.flow.toNat) 4 ++ putT (headP P + P.pay.size - 40) 2 ++ putT (nextK P P.exts).toNat 1 ++ putT P.hop.toNat 1 ++ bytT P.sv P.sb ++ bytT P.dv P.db
def sixB (P : Pk) : ByteArray := hd6 P ++ exB P P.exts ++ P.pay
def a4 (P : Pk) : ByteArray := putT (64 + headP P / 4) 1 ++ putT P.cls.toNat 1 ++ putT (headP P + P.pay.size) 2 ++ putT P.id.toNat 2 ++ putT (P.off.toNat / 8 + bN P.more 8192 + bN P.still 16384) 2 ++ putT P.hop.toNat 1 ++ putT P.proto.toNat 1
def b4 (P : Pk) : ByteArray := bytT P.sv P.sb ++ bytT P.dv P.db ++ P.opts
def fourB (P : Pk) : ByteArray := a4 P ++ putT (sumT (a4 P ++ b4 P)).toNat 2 ++ b4 P ++ P.pay
def bldT (P : Pk) : ByteArray := if rgtP P && fitP P then (if P.sv = true then sixB P else fourB P) else ByteArray.empty
def bldE (P : Pk) : Int := if rgtP P = true then (if fitP P = true then 0 else 75) else 1
def zeroP : Pk := ⟨false, fun _ => 0, false, fun _ => 0, 0, 0, 0, 0, 0, false, false, ByteArray.empty, 0, [], false, ByteArray.empty⟩
def h6 (b : ByteArray) : Pk := ⟨true, frB (b.extract 8 24), true, frB (b.extract 24 40), 0, txt b 7, ((getN (txt b) 0 4 / 1048576 % 256 : Nat) : Int), 0, 0, false, false, ByteArray.empty, ((getN (txt b) 0 4 % 1048576 : Nat) : Int), [], false, ByteArray.empty⟩
def exEq : List Ex → List Ex → Bool
  | [], [] => true
  | x :: l, y :: m => decide (x.kind = y.kind) && decide (x.body = y.body) && exEq l m
  | _, _ => false
/-- Two packets are the same. -/
def samP (P Q : Pk) : Bool := eqAF P.sv P.sb Q.sv Q.sb && eqAF P.dv P.db Q.dv Q.db && decide (P.proto = Q.proto) && decide (P.hop = Q.hop) && decide (P.cls = Q.cls) && decide (P.id = Q.id) && decide (P.off = Q.off) && (P.more == Q.more) && (P.still == Q.still) && decide (P.opts = Q.opts) && decide (P.flow = Q.flow) && exEq P.exts Q.exts && (P.cut == Q.cut) && decide (P.pay = Q.pay)
theorem exEq_iff : ∀ {l m : List Ex}, exEq l m = true ↔ l = m
  | [], [] => by simp [exEq]
  | [], _ :: _ => by simp [exEq]
  | _ :: _, [] => by simp [exEq]
  | x :: l, y :: m => by
    have ih := @exEq_iff l m
    obtain ⟨k, b⟩ := x
    obtain ⟨k', b'⟩ := y
    simp [exEq, ih]
theorem samP_iff {P Q : Pk} : samP P Q = true ↔ P.sv = Q.sv ∧ (∀ i, i < 16 → P.sb i = Q.sb i) ∧ P.dv = Q.dv ∧ (∀ i, i < 16 → P.db i = Q.db i) ∧ P.proto = Q.proto ∧ P.hop = Q.hop ∧ P.cls = Q.cls ∧ P.id = Q.id ∧ P.off = Q.off ∧ P.more = Q.more ∧ P.still = Q.still ∧ P.opts = Q.opts ∧ P.flow = Q.flow ∧ P.exts = Q.exts ∧ P.cut = Q.cut ∧ P.pay = Q.pay := by
  unfold samP
  simp only [Bool.and_eq_true, eqAF_iff, exEq_iff, decide_eq_true_eq, beq_iff_eq, and_assoc]
theorem upB_iff {n m : Int} : upB n m = true ↔ 0 ≤ n ∧ n ≤ m := by unfold upB; simp
theorem isEx_iff {k : Int} : isEx k = true ↔ k = 0 ∨ k = 43 ∨ k = 60 := by unfold isEx; simp [or_assoc]
theorem mayB_iff {k : Int} {i : Nat} : mayB k i = true ↔ i < 4 ∧ (k ≠ 0 ∨ i = 0) := by unfold mayB; simp
theorem exOk_iff {x : Ex} {i : Nat} : exOk x i = true ↔ (x.kind = 0 ∨ x.kind = 43 ∨ x.kind = 60) ∧ (i < 4 ∧ (x.kind ≠ 0 ∨ i = 0)) ∧ x.body.size % 8 = 6 ∧ x.body.size ≤ 2046 := by
  unfold exOk
  simp only [Bool.and_eq_true, isEx_iff, mayB_iff, decide_eq_true_eq, and_assoc]
theorem rgt4_iff {P : Pk} : rgt4 P = true ↔ (0 ≤ P.id ∧ P.id ≤ 65535) ∧ P.opts.size % 4 = 0 ∧ P.opts.size ≤ 40 ∧ P.flow = 0 ∧ P.exts = [] ∧ P.cut = false := by
  unfold rgt4
  simp only [Bool.and_eq_true, upB_iff, decide_eq_true_eq, beq_iff_eq, List.isEmpty_iff, Bool.not_eq_true', and_assoc]
theorem rgt6_iff {P : Pk} : rgt6 P = true ↔ (0 ≤ P.flow ∧ P.flow ≤ 1048575) ∧ P.opts.size = 0 ∧ P.still = false ∧ exsOk P.exts 0 = true ∧ isHd P.proto = false ∧ (0 ≤ P.id ∧ P.id ≤ 4294967295) ∧ (P.cut = true ∨ (P.id = 0 ∧ P.off = 0 ∧ P.more = false)) := by
  unfold rgt6
  simp only [Bool.and_eq_true, Bool.or_eq_true, upB_iff, decide_eq_true_eq, beq_iff_eq, Bool.not_eq_true', and_assoc]
theorem rgtP_iff {P : Pk} : rgtP P = true ↔ validF P.sv P.sb = true ∧ validF P.dv P.db = true ∧ P.sv = P.dv ∧ (0 ≤ P.proto ∧ P.proto ≤ 255) ∧ (0 ≤ P.hop ∧ P.hop ≤ 255) ∧ (0 ≤ P.cls ∧ P.cls ≤ 255) ∧ (0 ≤ P.off ∧ P.off ≤ 65528) ∧ P.off % 8 = 0 ∧ (if P.sv = true then rgt6 P else rgt4 P) = true := by
  unfold rgtP
  simp only [Bool.and_eq_true, upB_iff, beq_iff_eq, and_assoc]
end Go.Proofs.YtojekoakgpkkdabDoor

/-
  Own text. Parts of texts, and numbers in them.
-/
namespace Go.Proofs.YtojekoakgpkkdabDoor
open Go.RowKit Go.Proofs
set_option maxRecDepth 100000
theorem txt_ext {A B : ByteArray} (h : A.size = B.size) (h2 : ∀ j, j < A.size → txt A j = txt B j) : A = B := by
  rw [← mkS_txt A, ← mkS_txt B, ← h]
  exact mkS_congr h2
theorem txt_cutP (s : ByteArray) (a e j : Nat) (h : a + j < e) (he : e ≤ s.size) : txt (s.extract a e) j = txt s (a + j) := by
  have h1 : j < (s.extract a e).size := by rw [ByteArray.size_extract]; omega
  have h2 : a + j < s.size := by omega
  rw [← txt_get h1, ← txt_get h2]
  congr 2
  exact ByteArray.getElem_extract h1
theorem cutP_size (s : ByteArray) (a e : Nat) (he : e ≤ s.size) : (s.extract a e).size = e - a := by
  rw [ByteArray.size_extract]; omega
theorem cutP_cut (s : ByteArray) {a e b f : Nat} (he : e ≤ s.size) (hf : a + f ≤ e) : (s.extract a e).extract b f = s.extract (a + b) (a + f) := by
  have z1 := cutP_size s a e he
  have z2 := cutP_size (s.extract a e) b f (by omega)
  have z3 := cutP_size s (a + b) (a + f) (by omega)
  refine txt_ext (by omega) (fun j hj => ?_)
  rw [txt_cutP _ b f j (by omega) (by omega), txt_cutP s a e _ (by omega) he, txt_cutP s _ _ j (by omega) (by omega)]
  congr 1
  omega
theorem cutP_all (s : ByteArray) : s.extract 0 s.size = s := by
  refine txt_ext (by rw [cutP_size _ _ _ (Nat.le_refl _)]; omega) (fun j hj => ?_)
  rw [cutP_size _ _ _ (Nat.le_refl _)] at hj
  rw [txt_cutP s 0 s.size j (by omega) (Nat.le_refl _), Nat.zero_add]
theorem cutP_left (A B : ByteArray) {a e : Nat} (h : e ≤ A.size) : (A ++ B).extract a e = A.extract a e := by
  have z1 := cutP_size A a e h
  have z2 := cutP_size (A ++ B) a e (by rw [ByteArray.size_append]; omega)
  refine txt_ext (by omega) (fun j hj => ?_)
  rw [txt_cutP _ a e j (by omega) (by rw [ByteArray.size_append]; omega), txt_cutP A a e j (by omega) h, txt_append, if_pos (by omega)]
theorem cutP_right (A B : ByteArray) {n a e : Nat} (hn : A.size = n) (he : e ≤ B.size) : (A ++ B).extract (n + a) (n + e) = B.extract a e := by
  subst hn
  have z1 := cutP_size B a e he
  have z2 := cutP_size (A ++ B) (A.size + a) (A.size + e) (by rw [ByteArray.size_append]; omega)
  refine txt_ext (by omega) (fun j hj => ?_)
  rw [txt_cutP _ _ _ j (by omega) (by rw [ByteArray.size_append]; omega), txt_cutP B a e j (by omega) he, txt_append, if_neg (by omega)]
  congr 1
  omega
theorem txt_left (A B : ByteArray) {j : Nat} (h : j < A.size) : txt (A ++ B) j = txt A j := by rw [txt_append, if_pos h]
theorem txt_right (A B : ByteArray) {n j : Nat} (hn : A.size = n) : txt (A ++ B) (n + j) = txt B j := by
  subst hn
  rw [txt_append, if_neg (by omega), Nat.add_sub_cancel_left]
theorem getN_congr {f g : Nat → Int} {a b : Nat} : ∀ {z : Nat}, (∀ i, i < z → f (a + i) = g (b + i)) → getN f a z = getN g b z
  | 0, _ => rfl
  | z + 1, h => by
    unfold getN
    rw [getN_congr (fun i hi => h i (by omega)), h z (by omega)]
theorem getN_left (A B : ByteArray) {a z : Nat} (h : a + z ≤ A.size) : getN (txt (A ++ B)) a z = getN (txt A) a z := getN_congr (fun i hi => txt_left A B (by omega))
theorem getN_cut (s : ByteArray) {a e b z : Nat} (he : e ≤ s.size) (h : a + b + z ≤ e) : getN (txt (s.extract a e)) b z = getN (txt s) (a + b) z := getN_congr (fun i hi => by rw [txt_cutP s a e _ (by omega) he]; congr 1; omega)
theorem putT_size (N z : Nat) : (putT N z).size = z := mkS_size _ _
theorem empty_app (A : ByteArray) : ByteArray.empty ++ A = A := by
  refine txt_ext (by rw [ByteArray.size_append, ByteArray.size_empty]; omega) (fun j hj => ?_)
  rw [txt_append, if_neg (by rw [ByteArray.size_empty]; omega), ByteArray.size_empty]
  rfl
theorem get_putP {N z : Nat} (hz : z ≤ 8) (hN : N < 256 ^ z) (B : ByteArray) : getN (txt (putT N z ++ B)) 0 z = N := by
  have h := get_put ByteArray.empty N z hz z (Nat.le_refl _)
  rw [empty_app, ByteArray.size_empty, Nat.sub_self, Nat.pow_zero, Nat.div_one, Nat.mod_eq_of_lt hN] at h
  rw [getN_left _ _ (by rw [putT_size]; omega), h]
theorem put_one {N : Nat} (h : N < 256) : txt (putT N 1) 0 = (N : Int) := by
  unfold putT
  rw [txt_mkS (putF_b N 1 0) (by decide)]
  unfold putF
  simp
  omega
theorem bytT_ok {v : Bool} {b : Nat → Int} (h : validF v b = true) : bytT v b = mkS (if v = true then 16 else 4) b := by unfold bytT; rw [if_pos h]
theorem bytT_len {v : Bool} {b : Nat → Int} (h : validF v b = true) : (bytT v b).size = if v = true then 16 else 4 := by rw [bytT_ok h, mkS_size]
theorem app_assoc (A B C : ByteArray) : A ++ B ++ C = A ++ (B ++ C) := by
  refine txt_ext (by simp only [ByteArray.size_append]; omega) (fun j hj => ?_)
  simp only [txt_append, ByteArray.size_append]
  by_cases c1 : j < A.size
  · rw [if_pos (by omega), if_pos c1, if_pos c1]
  · by_cases c2 : j < A.size + B.size
    · rw [if_pos c2, if_neg c1, if_neg c1, if_pos (by omega)]
    · rw [if_neg c2, if_neg c1, if_neg (by omega)]
      congr 1
      omega
end Go.Proofs.YtojekoakgpkkdabDoor

/-
  Own text. A region whose operations come in the text's order, operation by operation, with guards that nobody knows: what an operation yields is told whether it is wanted or not. No program is named here.
-/
namespace Go.Proofs.YtojekoakgpkkdabDoor
open Go
section
variable {P : Program} {ops : Array Oper} {Q : Exit → Act → World → Prop}
/-- Operation k: it is wanted, and yields what is known of it; or it is not, and that is known of 'undef'. -/
def WantP (P : Program) (R : World → World → Prop) (φ : Nat → Value → World → Prop) (ds : List Nat) (k : Nat) (o : Oper) (Q : Exit → Act → World → Prop) (a : Act) (w : World) : Prop :=
  ((match o.guard with | none => True | some (g, b) => a.eval (.tmp (ds.getD g 0)) = .bool b) ∧
      ∀ K : Act → World → Prop, (∀ v w', φ k v w' → R w w' → K (a.put o.dst v) w') → o.wp P a w K Q) ∨
    ((match o.guard with | none => False | some (g, b) => a.eval (.tmp (ds.getD g 0)) = .bool (!b) ∨ a.eval (.tmp (ds.getD g 0)) = undef) ∧ φ k undef w)
/-- The slots that the region does not write; up to operation K also those that it writes later on. -/
def baseAt (base base0 : List (Nat × Value)) (K k : Nat) : List (Nat × Value) := match Nat.ble k K with | true => base ++ base0 | false => base
def StepP (P : Program) (S : World → Prop) (R : World → World → Prop) (φ : Nat → Value → World → Prop) (ds : List Nat) (base : List (Nat × Value)) (p : List Nat) (k : Nat) (o : Oper) : Prop :=
  ∀ (Q : Exit → Act → World → Prop) (a : Act) (w : World), S w → Holds a base → Knows φ ds a w p → WantP P R φ ds k o Q a w
def AllStepsP (P : Program) (S : World → Prop) (R : World → World → Prop) (φ : Nat → Value → World → Prop) (ds : List Nat) (base base0 : List (Nat × Value)) (K : Nat) : List (List Nat) → Nat → List Oper → Prop
  | _, _, [] => True
  | p, k, o :: l => StepP P S R φ ds (baseAt base base0 K k) (p.headD []) k o ∧ AllStepsP P S R φ ds base base0 K p.tail (k + 1) l
def tabP (ops : Array Oper) (n : Nat) (ds : List Nat) (base base0 : List Nat) (K : Nat) (p : List (List Nat)) : Bool :=
  (ops.toList.map (·.dst) == ds.map some) && decide ds.Nodup && base.all (fun t => !ds.contains t) && base0.all (fun t => !(ds.take K).contains t) && ds.all (fun d => decide (d < n)) &&
  (List.range ops.size).all (fun i => (p.getD i []).all (fun j => decide (j < i)) && (match ops[i]? with | some o => (match o.guard with | some (g, _) => decide (g < i) | none => true) | none => true))
theorem holds_app {a : Act} : ∀ {l m : List (Nat × Value)}, Holds a l → Holds a m → Holds a (l ++ m)
  | [], _, _, h => h
  | _ :: _, _, h1, h2 => ⟨h1.1, holds_app h1.2 h2⟩
theorem put_else {a : Act} {d t : Nat} {v : Value} (h : d ≠ t) : (a.put (some d) v).tmps[t]? = a.tmps[t]? := by simp [Act.put, h]
theorem put_same {a : Act} {d : Nat} {v : Value} (h : d < a.tmps.size) : (a.put (some d) v).tmps.getD d undef = v := by simp [Act.put, h]
theorem plain_go {a0 : Act} {S : World → Prop} {R : World → World → Prop} {φ : Nat → Value → World → Prop} {ds : List Nat} {base base0 : List (Nat × Value)} {K : Nat}
    (hds : ops.toList.map (·.dst) = ds.map some) (hnd : ds.Nodup) (hbase : ∀ t ∈ base.map (·.1), t ∉ ds) (hbase0 : ∀ t ∈ base0.map (·.1), t ∉ ds.take K) (hsz : ∀ d ∈ ds, d < a0.tmps.size)
    (hb0 : Holds a0 base) (hb00 : Holds a0 base0) (hSR : ∀ w w', S w → R w w' → S w') (hφ : ∀ i v w w', φ i v w → R w w' → φ i v w')
    (fin : ∀ (vs : Nat → Value) (w : World), S w → (∀ j : Nat, j < ds.length → φ j (vs (ds.getD j 0)) w) → Q .normal (putAll a0 vs ds) w) :
    ∀ (l : List Oper) (p : List (List Nat)) (k : Nat), ops.toList.drop k = l → k ≤ ops.size →
      (∀ i, k ≤ i → i < ops.size → (p.getD (i - k) []).all (fun j => decide (j < i)) = true ∧ (match ops[i]? with | some o => (match o.guard with | some (g, _) => decide (g < i) | none => true) | none => true) = true) →
      AllStepsP P S R φ ds base base0 K p k l → ∀ (a : Act) (w : World), a.tmps.size = a0.tmps.size → a.defers = a0.defers → S w →
      (∀ t : Nat, (∀ j, j < k → ds.getD j 0 ≠ t) → a.tmps[t]? = a0.tmps[t]?) → (∀ j, j < k → φ j (a.tmps.getD (ds.getD j 0) undef) w) → wpList P ops Q l a w
  | [], p, k, hl, hk, _, _, a, w, hs, hd, hS, hfr, hkn => by
    have hlen : ops.toList.length = ds.length := by have := congrArg List.length hds; simpa using this
    have hke : k = ops.size := by
      have := congrArg List.length hl
      simp at this
      omega
    have hkl : k = ds.length := by rw [← hlen, hke]; simp
    have hq := fin (fun d => a.tmps.getD d undef) w hS (fun j hj => hkn j (by omega))
    have ha : putAll a0 (fun d => a.tmps.getD d undef) ds = a := by
      have h1 := putAll_defers (fun d => a.tmps.getD d undef) ds a0
      have h2 : (putAll a0 (fun d => a.tmps.getD d undef) ds).tmps = a.tmps := by
        apply Array.ext_getElem?
        intro t
        by_cases ht : t < a0.tmps.size
        · rw [putAll_get _ _ _ _ ht]
          by_cases hm2 : t ∈ ds
          · rw [if_pos hm2]
            have : t < a.tmps.size := by rw [hs]; exact ht
            simp [this]
          · rw [if_neg hm2]
            exact (hfr t (fun j hj e => hm2 (by
              rw [← e, List.getD_eq_getElem?_getD, List.getElem?_eq_getElem (by omega)]
              simp))).symm
        · rw [Array.getElem?_eq_none (by rw [putAll_size]; omega), Array.getElem?_eq_none (by rw [hs]; omega)]
      rw [← hd] at h1
      generalize putAll a0 (fun d => a.tmps.getD d undef) ds = b at h1 h2
      cases a; cases b
      simp only at h1 h2
      rw [h1, h2]
    rw [ha] at hq
    exact hq
  | o :: l, p, k, hl, hk, htab, hst, a, w, hs, hd, hS, hfr, hkn => by
    have hlen : ops.toList.length = ds.length := by have := congrArg List.length hds; simpa using this
    have hkl : k < ops.size := by
      rcases Nat.lt_or_ge k ops.size with h | h
      · exact h
      · rw [List.drop_eq_nil_of_le (by simpa using h)] at hl
        cases hl
    have hkd : k < ds.length := by rw [← hlen]; simpa using hkl
    have ho : ops[k]? = some o := by
      have h1 : (ops.toList.drop k)[0]? = some o := by rw [hl]; rfl
      rw [List.getElem?_drop] at h1
      simpa using h1
    have hdst : ∀ (j : Nat) (oj : Oper), ops[j]? = some oj → oj.dst = some (ds.getD j 0) := fun j oj hj => by
      have h1 : (ops.toList.map (·.dst))[j]? = some oj.dst := by rw [List.getElem?_map]; simp [hj]
      rw [hds, List.getElem?_map] at h1
      cases hq : ds[j]? with
      | none => rw [hq] at h1; simp at h1
      | some d =>
        rw [hq] at h1
        rw [List.getD_eq_getElem?_getD, hq]
        simpa using h1.symm
    have hdk := hdst k o ho
    have hmem : ds.getD k 0 ∈ ds := by
      rw [List.getD_eq_getElem?_getD, List.getElem?_eq_getElem hkd]
      simp
    have hne : ∀ j, j < k → ds.getD j 0 ≠ ds.getD k 0 := fun j hj e => by
      have hj2 : j < ds.length := by omega
      rw [List.getD_eq_getElem?_getD, List.getD_eq_getElem?_getD, List.getElem?_eq_getElem hj2, List.getElem?_eq_getElem hkd] at e
      have := (List.getElem_inj hnd).1 (by simpa using e)
      omega
    have hl2 : ops.toList.drop (k + 1) = l := by
      have := congrArg List.tail hl
      simpa using this
    obtain ⟨hp, hg0⟩ := htab k (Nat.le_refl _) hkl
    rw [Nat.sub_self] at hp
    have hp' : ∀ j ∈ p.headD [], j < k := fun j hj => by
      have : p.getD 0 [] = p.headD [] := by cases p <;> rfl
      rw [this] at hp
      simpa using List.all_eq_true.1 hp j hj
    have htab' : ∀ i, k + 1 ≤ i → i < ops.size → (p.tail.getD (i - (k + 1)) []).all (fun j => decide (j < i)) = true ∧ (match ops[i]? with | some o => (match o.guard with | some (g, _) => decide (g < i) | none => true) | none => true) = true := fun i h1 h2 => by
      have h3 := htab i (by omega) h2
      refine ⟨?_, h3.2⟩
      have e : p.tail.getD (i - (k + 1)) [] = p.getD (i - k) [] := by
        cases p with
        | nil => rfl
        | cons x p => rw [show i - k = i - (k + 1) + 1 by omega]; rfl
      rw [e]
      exact h3.1
    have next : ∀ v w', S w' → (∀ j, j < k → φ j (a.tmps.getD (ds.getD j 0) undef) w') → φ k v w' → wpList P ops Q l (a.put o.dst v) w' := fun v w' hS' hkn' hv => by
      have hlt : ds.getD k 0 < a.tmps.size := by rw [hs]; exact hsz _ hmem
      refine plain_go hds hnd hbase hbase0 hsz hb0 hb00 hSR hφ fin l p.tail (k + 1) hl2 (by omega) htab' hst.2 (a.put o.dst v) w' ?_ ?_ hS' ?_ ?_
      · rw [hdk]; simpa [Act.put] using hs
      · rw [hdk]; exact hd
      · intro t ht
        have h1 : ds.getD k 0 ≠ t := ht k (by omega)
        rw [hdk, put_else h1]
        exact hfr t (fun j hj => ht j (by omega))
      · intro j hj
        by_cases e : j = k
        · subst e
          rw [hdk, put_same hlt]
          exact hv
        · have h1 := Ne.symm (hne j (by omega))
          rw [hdk, Array.getD_eq_getD_getElem?, put_else h1, ← Array.getD_eq_getD_getElem?]
          exact hkn' j (by omega)
    have hH : Holds a base := holds_of base (fun t ht => eval_tmp_of (hfr t (fun j hj e => hbase t ht (by
      rw [← e, List.getD_eq_getElem?_getD, List.getElem?_eq_getElem (by omega)]
      simp)))) hb0
    have hH' : Holds a (baseAt base base0 K k) := by
      unfold baseAt
      cases hk' : Nat.ble k K
      · exact hH
      · refine holds_app hH (holds_of base0 (fun t ht => eval_tmp_of (hfr t (fun j hj e => hbase0 t ht ?_))) hb00)
        have hjK : j < K := Nat.lt_of_lt_of_le hj (Nat.le_of_ble_eq_true hk')
        rw [← e, List.getD_eq_getElem?_getD, List.getElem?_eq_getElem (by omega)]
        exact List.mem_take_iff_getElem.2 ⟨j, by omega, rfl⟩
    have hK : Knows φ ds a w (p.headD []) := knows_of _ (fun j hj => by simpa [Act.eval] using hkn j (hp' j hj))
    have hyield : ∀ g, g < k → ∀ v, a.eval (.tmp (ds.getD g 0)) = v → yielded ops a.tmps g = (match v with | .bool b => some b | _ => none) := fun g hg v hv => by
      have hog : ops[g]? = some (ops[g]'(by omega)) := Array.getElem?_eq_getElem (by omega)
      have hd := hdst g _ hog
      have hgm : ds.getD g 0 < a.tmps.size := by
        rw [hs]
        apply hsz
        rw [List.getD_eq_getElem?_getD, List.getElem?_eq_getElem (by omega)]
        simp
      have h4 : a.tmps[ds.getD g 0]? = some v := by
        simp only [Act.eval] at hv
        rw [Array.getD_eq_getD_getElem?, Array.getElem?_eq_getElem hgm] at hv
        rw [Array.getElem?_eq_getElem hgm]
        simpa using hv
      unfold yielded
      rw [hog]
      simp only [Option.bind_some, hd, h4]
      cases v <;> rfl
    have hgk : ∀ g b, o.guard = some (g, b) → g < k := fun g b hgd => by
      rw [ho] at hg0
      simp only [hgd] at hg0
      simpa using hg0
    unfold wpList
    rcases hst.1 Q a w hS hH' hK with ⟨hg, hk2⟩ | ⟨hg, hu⟩
    · have hw : Region.wanted o (yielded ops a.tmps) = true := by
        unfold Region.wanted
        cases hgd : o.guard with
        | none => rfl
        | some x =>
          obtain ⟨g, b⟩ := x
          rw [hgd] at hg
          have := hyield g (hgk g b hgd) _ hg
          simp [this]
      rw [if_pos hw]
      exact .inl (hk2 _ (fun v w' h1 h2 => next v w' (hSR w w' hS h2) (fun j hj => hφ j _ w w' (hkn j hj) h2) h1))
    · have hw : Region.wanted o (yielded ops a.tmps) = false := by
        unfold Region.wanted
        cases hgd : o.guard with
        | none => rw [hgd] at hg; exact hg.elim
        | some x =>
          obtain ⟨g, b⟩ := x
          rw [hgd] at hg
          rcases hg with hg | hg
          · have := hyield g (hgk g b hgd) _ hg
            cases b <;> simp [this]
          · have := hyield g (hgk g b hgd) _ hg
            simp [this, undef]
      rw [if_neg (by rw [hw]; decide)]
      exact next undef w hS hkn hu
/-- THE LAW. -/
theorem wp_plain_steps {id : Nat} {a0 : Act} {w0 : World} (S : World → Prop) (R : World → World → Prop) (φ : Nat → Value → World → Prop) (ds : List Nat) (base base0 : List (Nat × Value)) (K : Nat) (p : List (List Nat))
    (hB : tabP ops a0.tmps.size ds (base.map (·.1)) (base0.map (·.1)) K p = true)
    (hb0 : Holds a0 base) (hb00 : Holds a0 base0) (hS0 : S w0) (hSR : ∀ w w', S w → R w w' → S w') (hφ : ∀ i v w w', φ i v w → R w w' → φ i v w')
    (steps : AllStepsP P S R φ ds base base0 K p 0 ops.toList)
    (fin : ∀ (vs : Nat → Value) (w : World), S w → (∀ j : Nat, j < ds.length → φ j (vs (ds.getD j 0)) w) → Q .normal (putAll a0 vs ds) w) : (Code.region id ops false).wp P Q a0 w0 := by
  simp only [tabP, Bool.and_eq_true, beq_iff_eq, decide_eq_true_eq] at hB
  obtain ⟨⟨⟨⟨⟨hds, hnd⟩, hbase⟩, hbase0⟩, hsz⟩, htab⟩ := hB
  refine wp_region_list (plain_go hds hnd (fun t ht => ?_) (fun t ht => ?_) (fun d hd => ?_) hb0 hb00 hSR hφ fin ops.toList p 0 (by simp) (by omega) (fun i _ hi => ?_) steps a0 w0 rfl rfl hS0 (fun _ _ => rfl) (fun j hj => by omega))
  · have := List.all_eq_true.1 hbase t ht
    simpa using this
  · have := List.all_eq_true.1 hbase0 t ht
    simpa using this
  · simpa using List.all_eq_true.1 hsz d hd
  · have := List.all_eq_true.1 htab i (List.mem_range.2 hi)
    rw [Nat.sub_zero]
    rw [Bool.and_eq_true] at this
    exact this
end
-- what is known of an operation that is wanted only if something holds
def gv (c : Bool) (v : Value) : Value := if c = true then v else undef
theorem gv_t {c : Bool} {v : Value} (h : c = true) : gv c v = v := by unfold gv; rw [if_pos h]
theorem gv_f {c : Bool} {v : Value} (h : c = false) : gv c v = undef := by unfold gv; rw [if_neg (by rw [h]; decide)]
theorem nt_t {c : Bool} (h : c = false) : (!c) = true := by rw [h]; rfl
theorem nt_f {c : Bool} (h : c = true) : (!c) = false := by rw [h]; rfl
theorem an_t {c d : Bool} (h : c = true) (k : d = true) : (c && d) = true := by rw [h, k]; rfl
section
variable {P : Program} {a : Act} {o : Oper} {w : World} {x y z : Operand}
theorem exec_pickAnd (ho : o.op = .pick x y z) {c p : Bool} (hx : a.eval x = .bool c) (hy : c = true → a.eval y = .bool p) (hz : a.eval z = .bool false) : (execOp a.eval o).run P w = .ok (.value (.bool (c && p))) w := by
  unfold execOp
  cases c
  · simp [ho, hx, asBool, Sem.run_pure, hz]
  · simp [ho, hx, asBool, Sem.run_pure, hy rfl]
theorem exec_pickOr (ho : o.op = .pick x y z) {c p : Bool} (hx : a.eval x = .bool c) (hy : a.eval y = .bool true) (hz : c = false → a.eval z = .bool p) : (execOp a.eval o).run P w = .ok (.value (.bool (c || p))) w := by
  unfold execOp
  cases c
  · simp [ho, hx, asBool, Sem.run_pure, hz rfl]
  · simp [ho, hx, asBool, Sem.run_pure, hy]
theorem exec_notB {t : TypeId} (ho : o.op = .unOp .not t x) {c : Bool} (hx : a.eval x = .bool c) : (execOp a.eval o).run P w = .ok (.value (.bool (!c))) w := by
  unfold execOp
  simp only [ho, hx]
  simp [Op.unary, go_sem]
end
section
variable {P : Program} {S : World → Prop} {R : World → World → Prop} {φ : Nat → Value → World → Prop} {a : Act} {o : Oper} {w : World} {Q : Exit → Act → World → Prop} {ds : List Nat} {k g : Nat}
theorem sg0 (hgd : o.guard = none) (h1 : ∀ K : Act → World → Prop, (∀ v w', φ k v w' → R w w' → K (a.put o.dst v) w') → o.wp P a w K Q) : WantP P R φ ds k o Q a w := by
  unfold WantP
  rw [hgd]
  exact .inl ⟨trivial, h1⟩
/-- A guard that is a known fact: wanted if c. -/
theorem sgT {c : Bool} (hgd : o.guard = some (g, true)) (hg : a.eval (.tmp (ds.getD g 0)) = .bool c) (h1 : c = true → ∀ K : Act → World → Prop, (∀ v w', φ k v w' → R w w' → K (a.put o.dst v) w') → o.wp P a w K Q) (h0 : c = false → φ k undef w) : WantP P R φ ds k o Q a w := by
  unfold WantP
  rw [hgd]
  cases c
  · exact .inr ⟨.inl hg, h0 rfl⟩
  · exact .inl ⟨hg, h1 rfl⟩
theorem sgF {c : Bool} (hgd : o.guard = some (g, false)) (hg : a.eval (.tmp (ds.getD g 0)) = .bool c) (h1 : c = false → ∀ K : Act → World → Prop, (∀ v w', φ k v w' → R w w' → K (a.put o.dst v) w') → o.wp P a w K Q) (h0 : c = true → φ k undef w) : WantP P R φ ds k o Q a w := by
  unfold WantP
  rw [hgd]
  cases c
  · exact .inl ⟨hg, h1 rfl⟩
  · exact .inr ⟨.inl hg, h0 rfl⟩
theorem sgTF {c d : Bool} (hgd : o.guard = some (g, false)) (hg : a.eval (.tmp (ds.getD g 0)) = gv d (.bool c)) (h1 : (d && !c) = true → ∀ K : Act → World → Prop, (∀ v w', φ k v w' → R w w' → K (a.put o.dst v) w') → o.wp P a w K Q) (h0 : (d && !c) = false → φ k undef w) : WantP P R φ ds k o Q a w := by
  unfold WantP
  rw [hgd]
  cases d
  · exact .inr ⟨.inr hg, h0 rfl⟩
  · cases c
    · exact .inl ⟨hg, h1 rfl⟩
    · exact .inr ⟨.inl hg, h0 rfl⟩
end
end Go.Proofs.YtojekoakgpkkdabDoor

/-
  Own text. Packets and extension headers in memory, and laws of single operations over them.
-/
namespace Go.Proofs.YtojekoakgpkkdabDoor
open Go.RowKit Go.Proofs
set_option maxRecDepth 100000
def pkT (P : Pk) (v : Value) : Nat → Value
  | 0 => .int .i64 P.proto
  | 1 => .int .i64 P.hop
  | 2 => .int .i64 P.cls
  | 3 => .int .i64 P.id
  | 4 => .int .i64 P.off
  | 5 => .bool P.more
  | 6 => .bool P.still
  | 7 => .string P.opts
  | 8 => .int .i64 P.flow
  | 9 => v
  | 10 => .bool P.cut
  | _ => .string P.pay
/-- The cells of a packet; v: the slice of its extension headers. -/
def pkV (P : Pk) (v : Value) (j : Nat) : Value := if j < 17 then adV P.sv P.sb j else if j < 34 then adV P.dv P.db (j - 17) else pkT P v (j - 34)
theorem pkV_one {P : Pk} {v : Value} (hv : v.oneCell' = true) (j : Nat) : (pkV P v j).oneCell' = true := by
  unfold pkV
  split
  · exact adV_one _ _ _
  · split
    · exact adV_one _ _ _
    · unfold pkT
      split <;> first | rfl | exact hv
def exV (x : Ex) (j : Nat) : Value := if j = 0 then .int .i64 x.kind else .string x.body
theorem exV_one (x : Ex) (j : Nat) : (exV x j).oneCell' = true := by unfold exV; split <;> rfl
theorem isPk : IsSt 39 46 := ⟨_, Tryd.underlying39, rfl, by kernel_rfl⟩
theorem isEx2 : IsSt 113 2 := ⟨_, Tryd.underlying113, rfl, by kernel_rfl⟩
theorem zeroPk (w : World) : (zeroValue 39).run Tryd.prog w = .ok (.agg (SC 46 (pkV zeroP (.slice none 0 0)))) w := by kernel_rfl
theorem zeroEx (w : World) : (zeroValue 113).run Tryd.prog w = .ok (.agg (SC 2 (exV ⟨0, ByteArray.empty⟩))) w := by kernel_rfl
theorem run_pk0 (w : World) : (Instr.build 39 #[]).run Tryd.prog w = .ok (.agg (SC 46 (pkV zeroP (.slice none 0 0)))) w := by kernel_rfl
/-- A slice of extension headers. -/
def ExAt (w : World) (v : Value) (l : List Ex) : Prop := ∃ a cap, v = .slice a l.length cap ∧ ∀ j x, l[j]? = some x → ∃ ad : Addr, a = some ad ∧ ad.block < w.heap.size ∧ w.cell? (ad.add (2 * j)) = some (.int .i64 x.kind) ∧ w.cell? (ad.add (2 * j + 1)) = some (.string x.body)
theorem ExAt.kept {w w' : World} {v : Value} {l : List Ex} (h : ExAt w v l) (hb : Below w.heap.size w w') : ExAt w' v l := by
  obtain ⟨a, cap, rfl, h⟩ := h
  refine ⟨a, cap, rfl, fun j x hj => ?_⟩
  obtain ⟨ad, ha, hl, h1, h2⟩ := h j x hj
  exact ⟨ad, ha, Nat.lt_of_lt_of_le hl hb.size, by rw [hb.cell (by rw [add_blk]; exact hl)]; exact h1, by rw [hb.cell (by rw [add_blk]; exact hl)]; exact h2⟩
theorem ExAt.nil (w : World) : ExAt w (.slice none 0 0) [] := ⟨none, 0, rfl, fun j x h => by simp at h⟩
section
variable {w : World} {g : Nat} {P : Pk} {v : Value}
theorem pk_sv (h : SAt w g 39 46 (pkV P v)) : w.cell? ⟨g, 0, none⟩ = some (.bool P.sv) := h.at 0 (by decide)
theorem pk_dv (h : SAt w g 39 46 (pkV P v)) : w.cell? ⟨g, 17, none⟩ = some (.bool P.dv) := h.at 17 (by decide)
theorem pk_proto (h : SAt w g 39 46 (pkV P v)) : w.cell? ⟨g, 34, none⟩ = some (.int .i64 P.proto) := h.at 34 (by decide)
theorem pk_hop (h : SAt w g 39 46 (pkV P v)) : w.cell? ⟨g, 35, none⟩ = some (.int .i64 P.hop) := h.at 35 (by decide)
theorem pk_cls (h : SAt w g 39 46 (pkV P v)) : w.cell? ⟨g, 36, none⟩ = some (.int .i64 P.cls) := h.at 36 (by decide)
theorem pk_id (h : SAt w g 39 46 (pkV P v)) : w.cell? ⟨g, 37, none⟩ = some (.int .i64 P.id) := h.at 37 (by decide)
theorem pk_off (h : SAt w g 39 46 (pkV P v)) : w.cell? ⟨g, 38, none⟩ = some (.int .i64 P.off) := h.at 38 (by decide)
theorem pk_more (h : SAt w g 39 46 (pkV P v)) : w.cell? ⟨g, 39, none⟩ = some (.bool P.more) := h.at 39 (by decide)
theorem pk_still (h : SAt w g 39 46 (pkV P v)) : w.cell? ⟨g, 40, none⟩ = some (.bool P.still) := h.at 40 (by decide)
theorem pk_opts (h : SAt w g 39 46 (pkV P v)) : w.cell? ⟨g, 41, none⟩ = some (.string P.opts) := h.at 41 (by decide)
theorem pk_flow (h : SAt w g 39 46 (pkV P v)) : w.cell? ⟨g, 42, none⟩ = some (.int .i64 P.flow) := h.at 42 (by decide)
theorem pk_exts (h : SAt w g 39 46 (pkV P v)) : w.cell? ⟨g, 43, none⟩ = some v := h.at 43 (by decide)
theorem pk_cut (h : SAt w g 39 46 (pkV P v)) : w.cell? ⟨g, 44, none⟩ = some (.bool P.cut) := h.at 44 (by decide)
theorem pk_pay (h : SAt w g 39 46 (pkV P v)) : w.cell? ⟨g, 45, none⟩ = some (.string P.pay) := h.at 45 (by decide)
theorem ex_kind {x : Ex} (h : SAt w g 113 2 (exV x)) : w.cell? ⟨g, 0, none⟩ = some (.int .i64 x.kind) := h.at 0 (by decide)
theorem ex_body {x : Ex} (h : SAt w g 113 2 (exV x)) : w.cell? ⟨g, 1, none⟩ = some (.string x.body) := h.at 1 (by decide)
theorem ldP {p : Addr} {n : Int} (h : w.cell? p = some (.int .i64 n)) : (Instr.loadAt 3 (.pointer (some p))).run Tryd.prog w = .ok (.int .i64 n) w := by simp [go_sem, h]
theorem ldPb {p : Addr} {b : Bool} (h : w.cell? p = some (.bool b)) : (Instr.loadAt 4 (.pointer (some p))).run Tryd.prog w = .ok (.bool b) w := by simp [go_sem, h]
theorem ldPs {p : Addr} {s : ByteArray} (h : w.cell? p = some (.string s)) : (Instr.loadAt 9 (.pointer (some p))).run Tryd.prog w = .ok (.string s) w := by simp [go_sem, h]
theorem ldPx {p : Addr} {x : Value} (h : w.cell? p = some x) : (Instr.loadAt 37 (.pointer (some p))).run Tryd.prog w = .ok x w := by simp [go_sem, h]
theorem ld_src (h : SAt w g 39 46 (pkV P v)) : (Instr.loadAt 30 (.pointer (some ⟨g, 0, none⟩))).run Tryd.prog w = .ok (.agg (SC 17 (adV P.sv P.sb))) w := by
  refine run_loadAt_addr w ⟨g, 0, none⟩ 30 ((List.range 17).map (adV P.sv P.sb)) _ (fun j x hj => ?_) Tryd.underlying30 rfl (by rw [List.length_map, List.length_range]; kernel_rfl)
  rw [List.getElem?_map] at hj
  have hl : j < 17 := by
    rcases Nat.lt_or_ge j 17 with h | h
    · exact h
    · rw [List.getElem?_eq_none (by simpa using h)] at hj; cases hj
  rw [List.getElem?_range hl] at hj
  rw [Addr.add_lit, Nat.zero_add, h.at j (by omega)]
  unfold pkV
  rw [if_pos hl]
  exact hj
theorem ld_dst (h : SAt w g 39 46 (pkV P v)) : (Instr.loadAt 30 (.pointer (some ⟨g, 17, none⟩))).run Tryd.prog w = .ok (.agg (SC 17 (adV P.dv P.db))) w := by
  refine run_loadAt_addr w ⟨g, 17, none⟩ 30 ((List.range 17).map (adV P.dv P.db)) _ (fun j x hj => ?_) Tryd.underlying30 rfl (by rw [List.length_map, List.length_range]; kernel_rfl)
  rw [List.getElem?_map] at hj
  have hl : j < 17 := by
    rcases Nat.lt_or_ge j 17 with h | h
    · exact h
    · rw [List.getElem?_eq_none (by simpa using h)] at hj; cases hj
  rw [List.getElem?_range hl] at hj
  rw [Addr.add_lit, h.at (17 + j) (by omega)]
  unfold pkV
  rw [if_neg (by omega), if_pos (by omega), Nat.add_sub_cancel_left]
  exact hj
end
section
variable {a : Act} {o : Oper} {w : World} {x y : Operand} {t : TypeId}
def pkO (k : Nat) : Nat := if k = 0 then 0 else if k = 1 then 17 else k + 32
theorem exec_fpk (k : Nat) (hk : k < 14) (ho : o.op = .fieldAddr 39 x k) {g : Nat} (hx : a.eval x = .pointer (some ⟨g, 0, none⟩)) : (execOp a.eval o).run Tryd.prog w = .ok (.value (.pointer (some ⟨g, pkO k, none⟩))) w := by
  have h : (Instr.fieldAt 39 (.pointer (some ⟨g, 0, none⟩)) k).run Tryd.prog w = .ok (.pointer (some ⟨g, pkO k, none⟩)) w := by
    match k, hk with
    | 0, _ => simp [go_sem, pkO]
    | 1, _ => simp [go_sem, pkO]
    | 2, _ => simp [go_sem, pkO]
    | 3, _ => simp [go_sem, pkO]
    | 4, _ => simp [go_sem, pkO]
    | 5, _ => simp [go_sem, pkO]
    | 6, _ => simp [go_sem, pkO]
    | 7, _ => simp [go_sem, pkO]
    | 8, _ => simp [go_sem, pkO]
    | 9, _ => simp [go_sem, pkO]
    | 10, _ => simp [go_sem, pkO]
    | 11, _ => simp [go_sem, pkO]
    | 12, _ => simp [go_sem, pkO]
    | 13, _ => simp [go_sem, pkO]
  unfold execOp
  simp only [ho, hx, Sem.run_bind, h, Result.andThen_ok, Sem.run_pure]
theorem exec_fex (k : Nat) (hk : k < 2) (ho : o.op = .fieldAddr 113 x k) {ad : Addr} (hx : a.eval x = .pointer (some ad)) : (execOp a.eval o).run Tryd.prog w = .ok (.value (.pointer (some (ad.add k)))) w := by
  have h : (Instr.fieldAt 113 (.pointer (some ad)) k).run Tryd.prog w = .ok (.pointer (some (ad.add k))) w := by
    match k, hk with
    | 0, _ => simp [go_sem]
    | 1, _ => simp [go_sem]
  unfold execOp
  simp only [ho, hx, Sem.run_bind, h, Result.andThen_ok, Sem.run_pure]
theorem exec_fexG (k : Nat) (hk : k < 2) (ho : o.op = .fieldAddr 113 x k) {g : Nat} (hx : a.eval x = .pointer (some ⟨g, 0, none⟩)) : (execOp a.eval o).run Tryd.prog w = .ok (.value (.pointer (some ⟨g, k, none⟩))) w := by
  have := exec_fex (w := w) k hk ho hx
  rwa [Addr.add_lit, Nat.zero_add] at this
theorem exec_fad0 (ho : o.op = .fieldAddr 30 x 0) {g f : Nat} (hx : a.eval x = .pointer (some ⟨g, f, none⟩)) : (execOp a.eval o).run Tryd.prog w = .ok (.value (.pointer (some ⟨g, f, none⟩))) w := by
  have h : (Instr.fieldAt 30 (.pointer (some ⟨g, f, none⟩)) 0).run Tryd.prog w = .ok (.pointer (some ⟨g, f, none⟩)) w := by simp [go_sem]
  unfold execOp
  simp only [ho, hx, Sem.run_bind, h, Result.andThen_ok, Sem.run_pure]
theorem exec_ixE (ho : o.op = .indexAddr 37 x y) {p : Addr} {n c i : Nat} (hx : a.eval x = .slice (some p) n c) (hy : a.eval y = .int .i64 (i : Int)) (hi : i < n) : (execOp a.eval o).run Tryd.prog w = .ok (.value (.pointer (some (p.add (2 * i))))) w := by
  unfold execOp
  simp only [ho, hx, hy, Sem.run_bind]
  rw [run_indexAt_slice w 37 _ n c .i64 (i : Int) Tryd.underlying37, if_pos ⟨by omega, by omega⟩]
  have e : (sizeOf (Tryd.prog.elem 37)).run Tryd.prog w = .ok 2 w := by kernel_rfl
  simp [e, Nat.mul_comm]
theorem exec_lenX (ho : o.op = .call { callee := .builtin .len, args := #[x], argTypes := #[37] }) {ad : Option Addr} {n c : Nat} (hx : a.eval x = .slice ad n c) : (execOp a.eval o).run Tryd.prog w = .ok (.value (.int .i64 (n : Int))) w := by
  have hr : (Builtin.len_ #[37] o.type #[.slice ad n c]).run Tryd.prog w = .ok (goInt n) w := by simp [go_sem]
  simp [execOp, ho, resolve, invoke, builtin, hx, hr, goInt]
theorem ldEx {p : Addr} {e : Ex} (h1 : w.cell? p = some (.int .i64 e.kind)) (h2 : w.cell? (p.add 1) = some (.string e.body)) : (Instr.loadAt 113 (.pointer (some p))).run Tryd.prog w = .ok (.agg (SC 2 (exV e))) w := by
  refine run_loadAt_addr w p 113 [.int .i64 e.kind, .string e.body] _ (fun j x hj => ?_) Tryd.underlying113 rfl (by kernel_rfl)
  match j, hj with
  | 0, hj =>
    simp at hj
    subst hj
    have e0 : p.add 0 = p := by cases p with | mk b o q => cases q <;> simp [Addr.add]
    rw [e0]
    exact h1
  | 1, hj => simp at hj; subst hj; exact h2
theorem exec_pk0 (ho : o.op = .build 39 #[]) : (execOp a.eval o).run Tryd.prog w = .ok (.value (.agg (SC 46 (pkV zeroP (.slice none 0 0))))) w := by
  unfold execOp
  simp only [ho, List.map_toArray, List.map_nil, Sem.run_bind, run_pk0, Result.andThen_ok, Sem.run_pure]
-- comparisons whose outcome nobody knows
theorem cmp_eq (ho : o.op = .binOp .eql 3 x y 3) {m n : Int} (hx : a.eval x = .int .i64 m) (hy : a.eval y = .int .i64 n) : (execOp a.eval o).run Tryd.prog w = .ok (.value (.bool (decide (m = n)))) w := exec_bin2 ho hx hy rfl (by simp [go_sem]; exact (Bool.beq_eq_decide_eq m n))
theorem cmp_ne (ho : o.op = .binOp .neq 3 x y 3) {m n : Int} (hx : a.eval x = .int .i64 m) (hy : a.eval y = .int .i64 n) : (execOp a.eval o).run Tryd.prog w = .ok (.value (.bool (!decide (m = n)))) w := exec_bin2 ho hx hy rfl (by simp [go_sem, bne, Bool.beq_eq_decide_eq])
theorem cmp_lt (ho : o.op = .binOp .lss 3 x y 3) {m n : Int} (hx : a.eval x = .int .i64 m) (hy : a.eval y = .int .i64 n) : (execOp a.eval o).run Tryd.prog w = .ok (.value (.bool (decide (m < n)))) w := exec_bin2 ho hx hy rfl (by simp [go_sem])
theorem cmp_le (ho : o.op = .binOp .leq 3 x y 3) {m n : Int} (hx : a.eval x = .int .i64 m) (hy : a.eval y = .int .i64 n) : (execOp a.eval o).run Tryd.prog w = .ok (.value (.bool (decide (m ≤ n)))) w := exec_bin2 ho hx hy rfl (by simp [go_sem])
theorem cmp_gt (ho : o.op = .binOp .gtr 3 x y 3) {m n : Int} (hx : a.eval x = .int .i64 m) (hy : a.eval y = .int .i64 n) : (execOp a.eval o).run Tryd.prog w = .ok (.value (.bool (decide (n < m)))) w := exec_bin2 ho hx hy rfl (by simp [go_sem])
theorem cmp_ge (ho : o.op = .binOp .geq 3 x y 3) {m n : Int} (hx : a.eval x = .int .i64 m) (hy : a.eval y = .int .i64 n) : (execOp a.eval o).run Tryd.prog w = .ok (.value (.bool (decide (n ≤ m)))) w := exec_bin2 ho hx hy rfl (by simp [go_sem])
theorem cmp_eqE (ho : o.op = .binOp .eql 62 x y 62) {m n : Int} (hx : a.eval x = .int .i64 m) (hy : a.eval y = .int .i64 n) : (execOp a.eval o).run Tryd.prog w = .ok (.value (.bool (decide (m = n)))) w := exec_bin2 ho hx hy rfl (by simp [go_sem]; exact (Bool.beq_eq_decide_eq m n))
theorem cmp_neE (ho : o.op = .binOp .neq 62 x y 62) {m n : Int} (hx : a.eval x = .int .i64 m) (hy : a.eval y = .int .i64 n) : (execOp a.eval o).run Tryd.prog w = .ok (.value (.bool (!decide (m = n)))) w := exec_bin2 ho hx hy rfl (by simp [go_sem, bne, Bool.beq_eq_decide_eq])
theorem cmp_eqB (ho : o.op = .binOp .eql 4 x y 4) {m n : Bool} (hx : a.eval x = .bool m) (hy : a.eval y = .bool n) : (execOp a.eval o).run Tryd.prog w = .ok (.value (.bool (m == n))) w := exec_bin2 ho hx hy rfl (by simp [go_sem])
theorem cmp_neB (ho : o.op = .binOp .neq 4 x y 4) {m n : Bool} (hx : a.eval x = .bool m) (hy : a.eval y = .bool n) : (execOp a.eval o).run Tryd.prog w = .ok (.value (.bool (!(m == n)))) w := exec_bin2 ho hx hy rfl (by simp [go_sem])
theorem cmp_neS (ho : o.op = .binOp .neq 9 x y 9) {s t : ByteArray} (hx : a.eval x = .string s) (hy : a.eval y = .string t) : (execOp a.eval o).run Tryd.prog w = .ok (.value (.bool (!decide (s = t)))) w := by
  by_cases e : s = t
  · subst e
    exact exec_bin2 ho hx hy rfl (by simp [go_sem])
  · rw [decide_eq_false e]
    exact exec_neqST ho hx hy e
theorem rem_nn (ho : o.op = .binOp .rem 3 x y 3) {m n : Int} (hx : a.eval x = .int .i64 m) (hy : a.eval y = .int .i64 n) (h0 : 0 ≤ m) (hn : 0 < n) : (execOp a.eval o).run Tryd.prog w = .ok (.value (.int .i64 (m % n))) w := by
  obtain ⟨i, rfl⟩ := Int.eq_ofNat_of_zero_le h0
  obtain ⟨k, rfl⟩ := Int.eq_ofNat_of_zero_le (by omega : 0 ≤ n)
  have := exec_remW (w := w) (q := i % k) ho hx hy rfl (by omega)
  exact this
theorem exec_cvIU64 (ho : o.op = .convert 3 79 x) {m : Int} (hx : a.eval x = .int .i64 m) (h0 : 0 ≤ m) (h1 : m < 9223372036854775808) : (execOp a.eval o).run Tryd.prog w = .ok (.value (.int .u64 ((m.toNat : Nat) : Int))) w := by
  have e : IntKind.u64.wrap m = ((m.toNat : Nat) : Int) := by rw [IntKind.wrap_u64]; omega
  unfold execOp
  simp only [ho, hx]
  simp [go_sem, e]
end
end Go.Proofs.YtojekoakgpkkdabDoor

/-
  Own text. Small functions of the program and of the document: numbers within bounds, kinds of headers.
-/
namespace Go.Proofs.YtojekoakgpkkdabDoor
open Go.RowKit Go.Proofs
set_option maxRecDepth 100000
theorem isEx_d (k : Int) : isEx k = (decide (k = 0) || decide (k = 43) || decide (k = 60)) := rfl
theorem isHd_d (k : Int) : isHd k = (isEx k || decide (k = 44)) := rfl
theorem mayB_d (k : Int) (i : Nat) : mayB k i = (decide ((i : Int) < 4) && (!decide (k = 0) || decide ((i : Int) = 0))) := by
  unfold mayB
  have e1 : decide (i < 4) = decide ((i : Int) < 4) := by congr 1; exact propext ⟨fun h => by omega, fun h => by omega⟩
  have e2 : decide (i = 0) = decide ((i : Int) = 0) := by congr 1; exact propext ⟨fun h => by omega, fun h => by omega⟩
  rw [e1, e2]
  rfl
set_option maxHeartbeats 4000000 in
theorem upTo_run (n m : Int) (w : World) : Calls Tryd.prog 43 #[.int .i64 n, .int .i64 m] w fun e w' => e = .returned (.bool (upB n m)) ∧ Below w.heap.size w w' := by
  go_enter Tryd.func43, Tryd.ntmps43
  go_upto_region 1 with fail
  refine wp_plain_steps (Below w.heap.size w) (fun v v' => Below v.heap.size v v') (fun j vv _ => vv = ([.int .i64 n, .bool (decide (0 ≤ n)), .bool (decide (0 ≤ n)), gv (decide (0 ≤ n)) (.int .i64 n), gv (decide (0 ≤ n)) (.int .i64 m), gv (decide (0 ≤ n)) (.bool (decide (n ≤ m))), .bool ((decide (0 ≤ n)) && (decide (n ≤ m))), .bool ((decide (0 ≤ n)) && (decide (n ≤ m)))] : List Value).getD j undef)
      [5, 6, 7, 8, 9, 10, 11, 4]
      [(0, .int .i64 n), (1, .int .i64 m)] [] 0
      [[], [0], [1], [2], [2], [2, 3, 4], [2, 5], [6]]
      (by kernel_rfl) ⟨rfl, rfl, trivial⟩ trivial (Below.refl _ _) (fun v v' h hb => h.trans (hb.mono h.size)) (fun _ _ _ _ h _ => h)
      ⟨
      (fun QQ aa ww hS fr kn => sg0 rfl (fun K hK => wp_value (exec_move rfl fr.1) (hK _ _ rfl (Below.refl _ _)))),
      (fun QQ aa ww hS fr kn => sg0 rfl (fun K hK => wp_value (cmp_ge (m := n) (n := 0) rfl kn.1 rfl) (hK _ _ rfl (Below.refl _ _)))),
      (fun QQ aa ww hS fr kn => sg0 rfl (fun K hK => wp_value (exec_move rfl kn.1) (hK _ _ rfl (Below.refl _ _)))),
      (fun QQ aa ww hS fr kn => sgT rfl kn.1 (fun hc K hK => wp_value (exec_move rfl fr.1) (hK _ _ (gv_t hc).symm (Below.refl _ _))) (fun h0 => (gv_f h0).symm)),
      (fun QQ aa ww hS fr kn => sgT rfl kn.1 (fun hc K hK => wp_value (exec_move rfl fr.2.1) (hK _ _ (gv_t hc).symm (Below.refl _ _))) (fun h0 => (gv_f h0).symm)),
      (fun QQ aa ww hS fr kn => sgT rfl kn.1 (fun hc K hK => wp_value (cmp_le (m := n) (n := m) rfl (kn.2.1.trans (gv_t hc)) (kn.2.2.1.trans (gv_t hc))) (hK _ _ (gv_t hc).symm (Below.refl _ _))) (fun h0 => (gv_f h0).symm)),
      (fun QQ aa ww hS fr kn => sg0 rfl (fun K hK => wp_value (exec_pickAnd rfl kn.1 (fun hx => kn.2.1.trans (gv_t hx)) rfl) (hK _ _ rfl (Below.refl _ _)))),
      (fun QQ aa ww hS fr kn => sg0 rfl (fun K hK => wp_value (exec_assign rfl kn.1) (hK _ _ rfl (Below.refl _ _)))),
      trivial⟩ ?_
  intro vs u2 hB2 kn
  have e4 : vs 4 = .bool ((decide (0 ≤ n)) && (decide (n ≤ m))) := kn 7 (by decide)
  clear kn
  simp only [putAll, Act.put, List.setIfInBounds_toArray, List.set_cons_zero, List.set_cons_succ, e4]
  clear e4
  go_wp2_with fail
  go_ret
  exact ⟨rfl, hB2⟩
set_option maxHeartbeats 4000000 in
theorem isExt_run (k : Int) (w : World) : Calls Tryd.prog 68 #[.int .i64 k] w fun e w' => e = .returned (.bool (isEx k)) ∧ Below w.heap.size w w' := by
  go_enter Tryd.func68, Tryd.ntmps68
  go_upto_region 1 with fail
  refine wp_plain_steps (Below w.heap.size w) (fun v v' => Below v.heap.size v v') (fun j vv _ => vv = ([.int .i64 k, .bool (decide (k = 0)), .bool (decide (k = 0)), gv (!(decide (k = 0))) (.int .i64 k), gv (!(decide (k = 0))) (.bool (decide (k = 43))), .bool ((decide (k = 0)) || (decide (k = 43))), .bool ((decide (k = 0)) || (decide (k = 43))), gv (!((decide (k = 0)) || (decide (k = 43)))) (.int .i64 k), gv (!((decide (k = 0)) || (decide (k = 43)))) (.bool (decide (k = 60))), .bool (((decide (k = 0)) || (decide (k = 43))) || (decide (k = 60))), .bool (((decide (k = 0)) || (decide (k = 43))) || (decide (k = 60)))] : List Value).getD j undef)
      [3, 4, 5, 6, 7, 8, 9, 10, 11, 12, 2]
      [(0, .int .i64 k)] [] 0
      [[], [0], [1], [2], [2, 3], [2, 4], [5], [6], [6, 7], [6, 8], [9]]
      (by kernel_rfl) ⟨rfl, trivial⟩ trivial (Below.refl _ _) (fun v v' h hb => h.trans (hb.mono h.size)) (fun _ _ _ _ h _ => h)
      ⟨
      (fun QQ aa ww hS fr kn => sg0 rfl (fun K hK => wp_value (exec_move rfl fr.1) (hK _ _ rfl (Below.refl _ _)))),
      (fun QQ aa ww hS fr kn => sg0 rfl (fun K hK => wp_value (cmp_eq (m := k) (n := 0) rfl kn.1 rfl) (hK _ _ rfl (Below.refl _ _)))),
      (fun QQ aa ww hS fr kn => sg0 rfl (fun K hK => wp_value (exec_move rfl kn.1) (hK _ _ rfl (Below.refl _ _)))),
      (fun QQ aa ww hS fr kn => sgF rfl kn.1 (fun hng K hK => have hc := nt_t hng; wp_value (exec_move rfl fr.1) (hK _ _ (gv_t hc).symm (Below.refl _ _))) (fun h0 => (gv_f (nt_f h0)).symm)),
      (fun QQ aa ww hS fr kn => sgF rfl kn.1 (fun hng K hK => have hc := nt_t hng; wp_value (cmp_eq (m := k) (n := 43) rfl (kn.2.1.trans (gv_t hc)) rfl) (hK _ _ (gv_t hc).symm (Below.refl _ _))) (fun h0 => (gv_f (nt_f h0)).symm)),
      (fun QQ aa ww hS fr kn => sg0 rfl (fun K hK => wp_value (exec_pickOr rfl kn.1 rfl (fun hx => kn.2.1.trans (gv_t (nt_t hx)))) (hK _ _ rfl (Below.refl _ _)))),
      (fun QQ aa ww hS fr kn => sg0 rfl (fun K hK => wp_value (exec_move rfl kn.1) (hK _ _ rfl (Below.refl _ _)))),
      (fun QQ aa ww hS fr kn => sgF rfl kn.1 (fun hng K hK => have hc := nt_t hng; wp_value (exec_move rfl fr.1) (hK _ _ (gv_t hc).symm (Below.refl _ _))) (fun h0 => (gv_f (nt_f h0)).symm)),
      (fun QQ aa ww hS fr kn => sgF rfl kn.1 (fun hng K hK => have hc := nt_t hng; wp_value (cmp_eq (m := k) (n := 60) rfl (kn.2.1.trans (gv_t hc)) rfl) (hK _ _ (gv_t hc).symm (Below.refl _ _))) (fun h0 => (gv_f (nt_f h0)).symm)),
      (fun QQ aa ww hS fr kn => sg0 rfl (fun K hK => wp_value (exec_pickOr rfl kn.1 rfl (fun hx => kn.2.1.trans (gv_t (nt_t hx)))) (hK _ _ rfl (Below.refl _ _)))),
      (fun QQ aa ww hS fr kn => sg0 rfl (fun K hK => wp_value (exec_assign rfl kn.1) (hK _ _ rfl (Below.refl _ _)))),
      trivial⟩ ?_
  intro vs u2 hB2 kn
  have e2 : vs 2 = .bool (((decide (k = 0)) || (decide (k = 43))) || (decide (k = 60))) := kn 10 (by decide)
  clear kn
  simp only [putAll, Act.put, List.setIfInBounds_toArray, List.set_cons_zero, List.set_cons_succ, e2]
  clear e2
  go_wp2_with fail
  go_ret
  exact ⟨by rw [isEx_d]; rfl, hB2⟩
theorem en_upTo (args : Array Value) (w : World) : (callFunc 43 args).run Tryd.prog w = .ok (.enter 43 args) w := by kernel_rfl
theorem en_isExt (args : Array Value) (w : World) : (callFunc 68 args).run Tryd.prog w = .ok (.enter 68 args) w := by kernel_rfl
set_option maxHeartbeats 4000000 in
theorem isHeader_run (k : Int) (w : World) : Calls Tryd.prog 57 #[.int .i64 k] w fun e w' => e = .returned (.bool (isHd k)) ∧ Below w.heap.size w w' := by
  go_enter Tryd.func57, Tryd.ntmps57
  go_upto_region 1 with fail
  refine wp_plain_steps (Below w.heap.size w) (fun v v' => Below v.heap.size v v') (fun j vv _ => vv = ([.int .i64 k, .bool (isEx k), .bool (isEx k), gv (!(isEx k)) (.int .i64 k), gv (!(isEx k)) (.bool (decide (k = 44))), .bool ((isEx k) || (decide (k = 44))), .bool ((isEx k) || (decide (k = 44)))] : List Value).getD j undef)
      [3, 4, 5, 6, 7, 8, 2]
      [(0, .int .i64 k)] [] 0
      [[], [0], [1], [2], [2, 3], [2, 4], [5]]
      (by kernel_rfl) ⟨rfl, trivial⟩ trivial (Below.refl _ _) (fun v v' h hb => h.trans (hb.mono h.size)) (fun _ _ _ _ h _ => h)
      ⟨
      (fun QQ aa ww hS fr kn => sg0 rfl (fun K hK => wp_value (exec_move rfl fr.1) (hK _ _ rfl (Below.refl _ _)))),
      (fun QQ aa ww hS fr kn => sg0 rfl (fun K hK => stepc en_isExt rfl (args1 kn.1) (isExt_run k ww) (fun w' hb => hK _ _ rfl hb))),
      (fun QQ aa ww hS fr kn => sg0 rfl (fun K hK => wp_value (exec_move rfl kn.1) (hK _ _ rfl (Below.refl _ _)))),
      (fun QQ aa ww hS fr kn => sgF rfl kn.1 (fun hng K hK => have hc := nt_t hng; wp_value (exec_move rfl fr.1) (hK _ _ (gv_t hc).symm (Below.refl _ _))) (fun h0 => (gv_f (nt_f h0)).symm)),
      (fun QQ aa ww hS fr kn => sgF rfl kn.1 (fun hng K hK => have hc := nt_t hng; wp_value (cmp_eq (m := k) (n := 44) rfl (kn.2.1.trans (gv_t hc)) rfl) (hK _ _ (gv_t hc).symm (Below.refl _ _))) (fun h0 => (gv_f (nt_f h0)).symm)),
      (fun QQ aa ww hS fr kn => sg0 rfl (fun K hK => wp_value (exec_pickOr rfl kn.1 rfl (fun hx => kn.2.1.trans (gv_t (nt_t hx)))) (hK _ _ rfl (Below.refl _ _)))),
      (fun QQ aa ww hS fr kn => sg0 rfl (fun K hK => wp_value (exec_assign rfl kn.1) (hK _ _ rfl (Below.refl _ _)))),
      trivial⟩ ?_
  intro vs u2 hB2 kn
  have e2 : vs 2 = .bool ((isEx k) || (decide (k = 44))) := kn 6 (by decide)
  clear kn
  simp only [putAll, Act.put, List.setIfInBounds_toArray, List.set_cons_zero, List.set_cons_succ, e2]
  clear e2
  go_wp2_with fail
  go_ret
  exact ⟨by rw [isHd_d]; rfl, hB2⟩
set_option maxHeartbeats 4000000 in
theorem mayStand_run (k : Int) (i : Nat) (w : World) : Calls Tryd.prog 69 #[.int .i64 k, .int .i64 (i : Int)] w fun e w' => e = .returned (.bool (mayB k i)) ∧ Below w.heap.size w w' := by
  go_enter Tryd.func69, Tryd.ntmps69
  go_upto_region 1 with fail
  refine wp_plain_steps (Below w.heap.size w) (fun v v' => Below v.heap.size v v') (fun j vv _ => vv = ([.int .i64 (i : Int), .bool (decide ((i : Int) < 4)), .bool (decide ((i : Int) < 4)), gv (decide ((i : Int) < 4)) (.int .i64 k), gv (decide ((i : Int) < 4)) (.bool (!decide (k = 0))), gv (decide ((i : Int) < 4)) (.bool (!decide (k = 0))), gv ((decide ((i : Int) < 4)) && (!(!decide (k = 0)))) (.int .i64 (i : Int)), gv ((decide ((i : Int) < 4)) && (!(!decide (k = 0)))) (.bool (decide ((i : Int) = 0))), gv (decide ((i : Int) < 4)) (.bool ((!decide (k = 0)) || (decide ((i : Int) = 0)))), .bool ((decide ((i : Int) < 4)) && ((!decide (k = 0)) || (decide ((i : Int) = 0)))), .bool ((decide ((i : Int) < 4)) && ((!decide (k = 0)) || (decide ((i : Int) = 0))))] : List Value).getD j undef)
      [5, 6, 7, 8, 9, 10, 11, 12, 13, 14, 4]
      [(0, .int .i64 k), (1, .int .i64 (i : Int))] [] 0
      [[], [0], [1], [2], [2, 3], [2, 4], [5], [5, 6], [2, 5, 7], [2, 8], [9]]
      (by kernel_rfl) ⟨rfl, rfl, trivial⟩ trivial (Below.refl _ _) (fun v v' h hb => h.trans (hb.mono h.size)) (fun _ _ _ _ h _ => h)
      ⟨
      (fun QQ aa ww hS fr kn => sg0 rfl (fun K hK => wp_value (exec_move rfl fr.2.1) (hK _ _ rfl (Below.refl _ _)))),
      (fun QQ aa ww hS fr kn => sg0 rfl (fun K hK => wp_value (cmp_lt (m := (i : Int)) (n := 4) rfl kn.1 rfl) (hK _ _ rfl (Below.refl _ _)))),
      (fun QQ aa ww hS fr kn => sg0 rfl (fun K hK => wp_value (exec_move rfl kn.1) (hK _ _ rfl (Below.refl _ _)))),
      (fun QQ aa ww hS fr kn => sgT rfl kn.1 (fun hc K hK => wp_value (exec_move rfl fr.1) (hK _ _ (gv_t hc).symm (Below.refl _ _))) (fun h0 => (gv_f h0).symm)),
      (fun QQ aa ww hS fr kn => sgT rfl kn.1 (fun hc K hK => wp_value (cmp_ne (m := k) (n := 0) rfl (kn.2.1.trans (gv_t hc)) rfl) (hK _ _ (gv_t hc).symm (Below.refl _ _))) (fun h0 => (gv_f h0).symm)),
      (fun QQ aa ww hS fr kn => sgT rfl kn.1 (fun hc K hK => wp_value (exec_move rfl (kn.2.1.trans (gv_t hc))) (hK _ _ (gv_t hc).symm (Below.refl _ _))) (fun h0 => (gv_f h0).symm)),
      (fun QQ aa ww hS fr kn => sgTF rfl kn.1 (fun hc K hK => wp_value (exec_move rfl fr.2.1) (hK _ _ (gv_t hc).symm (Below.refl _ _))) (fun h0 => (gv_f h0).symm)),
      (fun QQ aa ww hS fr kn => sgTF rfl kn.1 (fun hc K hK => wp_value (cmp_eq (m := (i : Int)) (n := 0) rfl (kn.2.1.trans (gv_t hc)) rfl) (hK _ _ (gv_t hc).symm (Below.refl _ _))) (fun h0 => (gv_f h0).symm)),
      (fun QQ aa ww hS fr kn => sgT rfl kn.1 (fun hc K hK => wp_value (exec_pickOr rfl (kn.2.1.trans (gv_t hc)) rfl (fun hx => kn.2.2.1.trans (gv_t (an_t hc (nt_t hx))))) (hK _ _ (gv_t hc).symm (Below.refl _ _))) (fun h0 => (gv_f h0).symm)),
      (fun QQ aa ww hS fr kn => sg0 rfl (fun K hK => wp_value (exec_pickAnd rfl kn.1 (fun hx => kn.2.1.trans (gv_t hx)) rfl) (hK _ _ rfl (Below.refl _ _)))),
      (fun QQ aa ww hS fr kn => sg0 rfl (fun K hK => wp_value (exec_assign rfl kn.1) (hK _ _ rfl (Below.refl _ _)))),
      trivial⟩ ?_
  intro vs u2 hB2 kn
  have e4 : vs 4 = .bool ((decide ((i : Int) < 4)) && ((!decide (k = 0)) || (decide ((i : Int) = 0)))) := kn 10 (by decide)
  clear kn
  simp only [putAll, Act.put, List.setIfInBounds_toArray, List.set_cons_zero, List.set_cons_succ, e4]
  clear e4
  go_wp2_with fail
  go_ret
  exact ⟨by rw [mayB_d]; rfl, hB2⟩
theorem en_isHeader (args : Array Value) (w : World) : (callFunc 57 args).run Tryd.prog w = .ok (.enter 57 args) w := by kernel_rfl
theorem en_mayStand (args : Array Value) (w : World) : (callFunc 69 args).run Tryd.prog w = .ok (.enter 69 args) w := by kernel_rfl
end Go.Proofs.YtojekoakgpkkdabDoor

/-
  Own text. Extension headers are compared; slices.Equal of them.
-/
namespace Go.Proofs.YtojekoakgpkkdabDoor
open Go.RowKit Go.Proofs
set_option maxRecDepth 100000
section
variable {a : Act} {o : Oper} {w : World} {x y : Operand} {t : TypeId}
end
theorem ExAt.sl {w w' : World} {a : Option Addr} {n c : Nat} {l : List Ex} (h : ExAt w (.slice a n c) l) (hB : Below w.heap.size w w') {j : Nat} {x : Ex} (hj : l[j]? = some x) : ∃ ad, a = some ad ∧ w'.cell? (ad.add (2 * j)) = some (.int .i64 x.kind) ∧ w'.cell? ((ad.add (2 * j)).add 1) = some (.string x.body) := by
  obtain ⟨a', cap, e, hc⟩ := h.kept hB
  obtain ⟨ad, e2, _, h1, h2⟩ := hc j x hj
  injection e with e
  exact ⟨ad, e.trans e2, h1, by rw [Addr.add_add]; exact h2⟩
end Go.Proofs.YtojekoakgpkkdabDoor

/-
  Own text. slices.Equal of extension headers; Same of the program and of the document.
-/
namespace Go.Proofs.YtojekoakgpkkdabDoor
open Go.RowKit Go.Proofs
set_option maxRecDepth 100000
theorem list_at {l : List Ex} {i : Nat} (h : i < l.length) : ∃ x, l[i]? = some x := ⟨_, List.getElem?_eq_getElem h⟩
end Go.Proofs.YtojekoakgpkkdabDoor

/-
  Own text. What was built is read again as the packet that it was.
-/
namespace Go.Proofs.YtojekoakgpkkdabDoor
open Go.RowKit Go.Proofs
set_option maxRecDepth 100000
/-- The numbers of a packet that may be. -/
structure PkOk (P : Pk) : Prop where
  sb : Byts 16 P.sb
  db : Byts 16 P.db
theorem bN_lt (b : Bool) (n : Nat) : bN b n ≤ n := by unfold bN; split <;> omega
theorem exB_size {P : Pk} : ∀ {l : List Ex} {i : Nat}, exsOk l i = true → (exB P l).size = exLen l + (if P.cut = true then 8 else 0)
  | [], _, _ => by
    unfold exB exLen cuB
    split
    · simp only [ByteArray.size_append, putT_size]
    · rw [ByteArray.size_empty]
  | x :: l, i, h => by
    unfold exsOk at h
    rw [Bool.and_eq_true] at h
    have := exB_size (P := P) h.2
    unfold exB exLen
    simp only [ByteArray.size_append, putT_size, this]
    omega
theorem exsOk_kind {P : Pk} (hp : isHd P.proto = false) : ∀ {l : List Ex} {i : Nat}, exsOk l i = true → (0 ≤ P.proto ∧ P.proto ≤ 255) → 0 ≤ nextK P l ∧ nextK P l ≤ 255 ∧ (l = [] → isHd (nextK P l) = P.cut)
  | [], _, _, hb => by
    unfold nextK tailK
    cases hc : P.cut
    · simp [hp, hb]
    · simp; decide
  | x :: l, i, h, _ => by
    unfold exsOk at h
    rw [Bool.and_eq_true, exOk_iff] at h
    have e : nextK P (x :: l) = x.kind := rfl
    rw [e]
    exact ⟨by omega, by omega, fun h => by cases h⟩
theorem exsOk_len : ∀ {l : List Ex} {i : Nat}, exsOk l i = true → l = [] ∨ i + l.length ≤ 4
  | [], _, _ => .inl rfl
  | x :: l, i, h => by
    unfold exsOk at h
    rw [Bool.and_eq_true, exOk_iff] at h
    rcases exsOk_len h.2 with e | e
    · subst e
      right
      simp
      omega
    · right
      simp
      omega
theorem a4_size (P : Pk) : (a4 P).size = 10 := by unfold a4; simp only [ByteArray.size_append, putT_size]
theorem b4_size {P : Pk} (h : rgtP P = true) (h4 : P.sv = false) : (b4 P).size = 8 + P.opts.size := by
  obtain ⟨h1, h2, h3, _⟩ := rgtP_iff.1 h
  have hd : P.dv = false := by rw [← h3]; exact h4
  have z1 := bytT_len h1
  have z2 := bytT_len h2
  rw [if_neg (by rw [h4]; decide)] at z1
  rw [if_neg (by rw [hd]; decide)] at z2
  unfold b4
  simp only [ByteArray.size_append, z1, z2]
theorem four_size {P : Pk} (h : rgtP P = true) (h4 : P.sv = false) : (fourB P).size = headP P + P.pay.size := by
  unfold fourB headP
  rw [if_neg (by rw [h4]; decide)]
  simp only [ByteArray.size_append, a4_size, b4_size h h4, putT_size]
  omega
end Go.Proofs.YtojekoakgpkkdabDoor

