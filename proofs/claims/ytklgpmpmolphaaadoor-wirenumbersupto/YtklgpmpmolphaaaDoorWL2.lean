/-
  Own text. WireNumbers: what was written is read.
-/
import Derived.Test.YtklgpmpmolphaaaDoorJ5
namespace Go.Proofs.YtklgpmpmolphaaaDoor
open Go.RowKit Go.Proofs
set_option maxRecDepth 100000
theorem get_put (s : ByteArray) (N z : Nat) (hz : z ≤ 8) : ∀ i, i ≤ z → getN (txt (s ++ putT N z)) s.size i = N / 256 ^ (z - i) % 256 ^ i
  | 0, _ => by
    unfold getN
    rw [Nat.pow_zero, Nat.mod_one]
  | i + 1, hi => by
    have ih := get_put s N z hz i (by omega)
    have ht : txt (s ++ putT N z) (s.size + i) = putF N z i := by
      rw [txt_append, if_neg (by omega), Nat.add_sub_cancel_left]
      exact txt_mkS (putF_b N z i) (by omega)
    show getN (txt (s ++ putT N z)) s.size i * 256 + (txt (s ++ putT N z) (s.size + i)).toNat = _
    rw [ih, ht]
    unfold putF
    rw [Int.toNat_natCast, show z - 1 - i = z - (i + 1) by omega, show z - i = z - (i + 1) + 1 by omega, Nat.pow_succ, ← Nat.div_div_eq_div_mul, Nat.pow_succ, Nat.mul_comm (256 ^ i) 256, Nat.mod_mul]
    omega
theorem isNu : IsSt 33 4 := ⟨_, Tryd.underlying33, rfl, by kernel_rfl⟩
section
variable {a : Act} {o : Oper} {w : World} {x y : Operand} {t : TypeId}
theorem exec_fnu (k : Nat) (hk : k < 4) (ho : o.op = .fieldAddr 33 x k) {g : Nat} (hx : a.eval x = .pointer (some ⟨g, 0, none⟩)) : (execOp a.eval o).run Tryd.prog w = .ok (.value (.pointer (some ⟨g, k, none⟩))) w := by
  have h : (Instr.fieldAt 33 (.pointer (some ⟨g, 0, none⟩)) k).run Tryd.prog w = .ok (.pointer (some ⟨g, k, none⟩)) w := by
    match k, hk with
    | 0, _ => simp [go_sem]
    | 1, _ => simp [go_sem]
    | 2, _ => simp [go_sem]
    | 3, _ => simp [go_sem]
  unfold execOp
  simp only [ho, hx, Sem.run_bind, h, Result.andThen_ok, Sem.run_pure]
theorem exec_cvIUi (ho : o.op = .convert 3 36 x) {m : Nat} (hx : a.eval x = .int .i64 (m : Int)) (h1 : m < 1000000000) : (execOp a.eval o).run Tryd.prog w = .ok (.value (.int .u64 (m : Int))) w := by
  have e : IntKind.u64.wrap (m : Int) = (m : Int) := by rw [IntKind.wrap_u64]; omega
  unfold execOp
  simp only [ho, hx]
  simp [go_sem, e]
theorem exec_mulUi (ho : o.op = .binOp .mul 36 x y 36) {i m q : Nat} (hx : a.eval x = .int .u64 (i : Int)) (hy : a.eval y = .int .u64 (m : Int)) (hq : i * m = q) (hl : q < 18446744073709551616) : (execOp a.eval o).run Tryd.prog w = .ok (.value (.int .u64 (q : Int))) w := by
  refine exec_bin2 ho hx hy rfl ?_
  have hc : (i : Int) * (m : Int) = (q : Int) := by rw [← hq]; simp
  have e2 : IntKind.u64.wrap (q : Int) = (q : Int) := by rw [IntKind.wrap_u64]; omega
  simp [go_sem, hc, e2]
theorem exec_eqUb (ho : o.op = .binOp .eql 29 x y 29) {m n : Int} (hx : a.eval x = .int .u64 m) (hy : a.eval y = .int .u64 n) (h : m = n) : (execOp a.eval o).run Tryd.prog w = .ok (.value (.bool true)) w := by
  subst h
  exact exec_bin2 ho hx hy rfl (by simp [go_sem])
theorem exec_shl1 (ho : o.op = .binOp .shl 29 x y 36) {z q : Nat} (hx : a.eval x = .int .u64 1) (hy : a.eval y = .int .u64 ((8 * z : Nat) : Int)) (hz : z < 8) (hq : 256 ^ z = q) : (execOp a.eval o).run Tryd.prog w = .ok (.value (.int .u64 (q : Int))) w := by
  subst hq
  refine exec_bin2 ho hx hy rfl ?_
  match z, hz with
  | 0, _ => simp [go_sem, IntKind.wrap_u64]
  | 1, _ => simp [go_sem, IntKind.wrap_u64]
  | 2, _ => simp [go_sem, IntKind.wrap_u64]
  | 3, _ => simp [go_sem, IntKind.wrap_u64]
  | 4, _ => simp [go_sem, IntKind.wrap_u64]
  | 5, _ => simp [go_sem, IntKind.wrap_u64]
  | 6, _ => simp [go_sem, IntKind.wrap_u64]
  | 7, _ => simp [go_sem, IntKind.wrap_u64]
end
/-- What Get tells. -/
def getR (s : ByteArray) (a z : Int) : Value := if 1 ≤ z ∧ z ≤ 8 ∧ 0 ≤ a ∧ a + z ≤ (s.size : Int) then .tuple #[.int .u64 (getN (txt s) a.toNat z.toNat : Int), .bool true] else .tuple #[.int .u64 0, .bool false]
theorem Get_any (s : ByteArray) (a z : Int) (w : World) (hs : s.size < 9223372036854775808) : Calls Tryd.prog 15 #[.string s, .int .i64 a, .int .i64 z] w fun e w' => e = .returned (getR s a z) ∧ w' = w := by
  unfold getR
  by_cases h : 1 ≤ z ∧ z ≤ 8 ∧ 0 ≤ a ∧ a + z ≤ (s.size : Int)
  · rw [if_pos h]
    obtain ⟨h1, h2, h3, h4⟩ := h
    have r := Get_run s a.toNat z.toNat w hs (by omega) (by omega) (by omega)
    rw [show ((a.toNat : Nat) : Int) = a by omega, show ((z.toNat : Nat) : Int) = z by omega] at r
    exact r
  · rw [if_neg h]
    exact Get_no s a z w hs (by omega)
theorem rGet_any (s : ByteArray) (a z : Int) (w : World) (hs : s.size < 9223372036854775808) : Calls Tryd.prog 16 #[.string s, .int .i64 a, .int .i64 z] w fun e w' => e = .returned (getR s a z) ∧ Below w.heap.size w w' := by
  unfold getR
  by_cases h : 1 ≤ z ∧ z ≤ 8 ∧ 0 ≤ a ∧ a + z ≤ (s.size : Int)
  · rw [if_pos h]
    obtain ⟨h1, h2, h3, h4⟩ := h
    have r := rGet_run s a.toNat z.toNat w hs (by omega) (by omega) (by omega)
    rw [show ((a.toNat : Nat) : Int) = a by omega, show ((z.toNat : Nat) : Int) = z by omega] at r
    exact r
  · rw [if_neg h]
    exact rGet_no s a z w hs (by omega)
theorem getR_shape (s : ByteArray) (a z : Int) : ∃ (x : Int) (k : Bool), getR s a z = .tuple #[.int .u64 x, .bool k] := by
  unfold getR
  split
  · exact ⟨_, _, rfl⟩
  · exact ⟨_, _, rfl⟩
def putR (N : Nat) (z : Int) : ByteArray := if 1 ≤ z ∧ z ≤ 8 then putT N z.toNat else ByteArray.empty
theorem Put_any (N : Nat) (z : Int) (w : World) : Calls Tryd.prog 13 #[.int .u64 (N : Int), .int .i64 z] w fun e w' => e = .returned (.string (putR N z)) ∧ Below w.heap.size w w' := by
  unfold putR
  by_cases h : 1 ≤ z ∧ z ≤ 8
  · rw [if_pos h]
    have r := Put_run N z.toNat w (by omega) (by omega)
    rw [show ((z.toNat : Nat) : Int) = z by omega] at r
    exact r
  · rw [if_neg h]
    exact Put_no N z w (by omega)
theorem rPut_any (N : Nat) (z : Int) (w : World) (hN : N < 18446744073709551616) : Calls Tryd.prog 17 #[.int .u64 (N : Int), .int .i64 z] w fun e w' => e = .returned (.string (putR N z)) ∧ Below w.heap.size w w' := by
  unfold putR
  by_cases h : 1 ≤ z ∧ z ≤ 8
  · rw [if_pos h]
    have r := rPut_run N z.toNat w hN (by omega) (by omega)
    rw [show ((z.toNat : Nat) : Int) = z by omega] at r
    exact r
  · rw [if_neg h]
    exact rPut_no N z w (by omega)
set_option maxHeartbeats 32000000 in
theorem numbers_nat (N : Nat) (z a : Int) (s : ByteArray) (w : World) (hN : N < 18446744073709551616) (hs : s.size ≤ 2000000) (hE : Env w) : Calls Tryd.prog 5 #[.agg (SC 4 (nuV (N : Int) z a s))] w fun e w' => e = .returned (.bool true) ∧ Below w.heap.size w w' := by
  obtain ⟨x, k, hx⟩ := getR_shape s a z
  have HG : Hid (∀ ww, Calls Tryd.prog 15 #[.string s, .int .i64 a, .int .i64 z] ww fun e w' => e = .returned (.tuple #[.int .u64 x, .bool k]) ∧ w' = ww) := Hid.mk (fun ww => by rw [← hx]; exact Get_any s a z ww (by omega))
  have HRG : Hid (∀ ww, Calls Tryd.prog 16 #[.string s, .int .i64 a, .int .i64 z] ww fun e w' => e = .returned (.tuple #[.int .u64 x, .bool k]) ∧ Below ww.heap.size ww w') := Hid.mk (fun ww => by rw [← hx]; exact rGet_any s a z ww (by omega))
  have HP : Hid (∀ ww, Calls Tryd.prog 13 #[.int .u64 (N : Int), .int .i64 z] ww fun e w' => e = .returned (.string (putR N z)) ∧ Below ww.heap.size ww w') := Hid.mk (fun ww => Put_any N z ww)
  have HRP : Hid (∀ ww, Calls Tryd.prog 17 #[.int .u64 (N : Int), .int .i64 z] ww fun e w' => e = .returned (.string (putR N z)) ∧ Below ww.heap.size ww w') := Hid.mk (fun ww => rPut_any N z ww hN)
  clear hx
  obtain ⟨P, hP⟩ : ∃ P, putR N z = P := ⟨_, rfl⟩
  rw [hP] at HP HRP
  go_enter Tryd.func5, Tryd.ntmps5
  go_wp2_with (refine wl_boxO rfl rfl isNu (by rfl) ?_; intro g u1 hg g1 hB1; refine Hid.out ?_)
  refine Hid.mk ?_
  have HE1 := Hid.mk (hE.kept hB1)
  go_wp2_with (go_at_call 9; refine (awake_run _ HE1.out).mono ?_; rintro e u2 ⟨rfl, hB2⟩; refine Hid.out ?_)
  refine Hid.mk ?_
  have g2 := SAt.kept g1 hB2
  have hBa := hB1.trans (hB2.mono hB1.size)
  have c0 : u2.cell? ⟨g, 0, none⟩ = some (.int .u64 (N : Int)) := SAt.at g2 0 (by decide)
  have c1 : u2.cell? ⟨g, 1, none⟩ = some (.int .i64 z) := SAt.at g2 1 (by decide)
  have c2 : u2.cell? ⟨g, 2, none⟩ = some (.int .i64 a) := SAt.at g2 2 (by decide)
  have c3 : u2.cell? ⟨g, 3, none⟩ = some (.string s) := SAt.at g2 3 (by decide)
  clear g1 g2 hB1 hB2 HE1
  go_wp2_with (first | (refine wl_value rfl (exec_fnu 0 (by decide) rfl (by rfl)) ?_) | (refine wl_value rfl (exec_fnu 1 (by decide) rfl (by rfl)) ?_) | (refine wl_value rfl (exec_fnu 2 (by decide) rfl (by rfl)) ?_) | (refine wl_value rfl (exec_fnu 3 (by decide) rfl (by rfl)) ?_) | (refine wl_value rfl (exec_ld rfl (by rfl) (load_str c3)) ?_) | (go_at_call 13; refine (HP.out _).mono ?_; rintro e u3 ⟨rfl, hB3⟩; refine Hid.out ?_))
  refine Hid.mk ?_
  have hBb := hBa.trans (hB3.mono hBa.size)
  clear hBa hB3 c0 c1 c2 c3
  go_wp2_with (first | (go_at_call 15; refine (HG.out _).mono ?_; rintro e u4 ⟨rfl, rfl⟩) | (go_at_call 16; refine (HRG.out _).mono ?_; rintro e u5 ⟨rfl, hB5⟩; refine Hid.out ?_))
  refine Hid.mk ?_
  have hBc := hBb.trans (hB5.mono hBb.size)
  go_wp2_with (first | (go_at_call 17; refine (HRP.out _).mono ?_; rintro e u6 ⟨rfl, hB6⟩; refine Hid.out ?_))
  refine Hid.mk ?_
  have hBd := hBc.trans (hB6.mono hBc.size)
  clear hBb hBc hB5 hB6 HP HRP HRG HG
  by_cases hz : 1 ≤ z ∧ z ≤ 8
  · obtain ⟨h1, h8⟩ := hz
    obtain ⟨m, hm⟩ : ∃ m : Nat, z = (m : Int) := ⟨z.toNat, by omega⟩
    subst hm
    have hPe : P = putT N m := by
      rw [← hP]
      unfold putR
      rw [if_pos ⟨h1, h8⟩]
      rfl
    have hPs : P.size = m := by rw [hPe]; exact mkS_size _ _
    have i1 : ¬ (m : Int) < 1 := by omega
    have i8 : ¬ (8 : Int) < (m : Int) := by omega
    have HC : Hid (s.size + P.size ≤ 9223372036854775807) := Hid.mk (by rw [hPs]; omega)
    have hgp := get_put s N m (by omega) m (Nat.le_refl _)
    rw [Nat.sub_self, Nat.pow_zero, Nat.div_one, ← hPe] at hgp
    obtain ⟨S, hS⟩ : ∃ S, s.size = S := ⟨_, rfl⟩
    have HG2 : Hid (∀ ww, Calls Tryd.prog 15 #[.string (s ++ P), .int .i64 (S : Int), .int .i64 (m : Int)] ww fun e w' => e = .returned (.tuple #[.int .u64 ((N % 256 ^ m : Nat) : Int), .bool true]) ∧ w' = ww) := Hid.mk (fun ww => by
      have r := Get_run (s ++ P) S m ww (by rw [ByteArray.size_append, hPs]; omega) (by omega) (by omega) (by rw [ByteArray.size_append, hPs, hS]; exact Nat.le_refl _)
      rw [← hS, hgp] at r
      rw [← hS]
      exact r)
    obtain ⟨r, hr⟩ : ∃ r, N % 256 ^ m = r := ⟨_, rfl⟩
    rw [hr] at HG2
    have HEQ := Hid.mk hr
    clear hgp hPe hP hr hPs
    by_cases h7 : m < 8
    · have h7i : (m : Int) < 8 := by omega
      obtain ⟨Q, hQ⟩ : ∃ Q, 256 ^ m = Q := ⟨_, rfl⟩
      have hQ0 : 0 < Q := by rw [← hQ]; exact Nat.pow_pos (by decide)
      have HQ := Hid.mk hQ
      rw [hQ] at HEQ
      clear hQ
      go_wp2_with (first | (refine wl_value rfl (exec_neqS rfl (by rfl) (by rfl) rfl) ?_) | (refine wl_value rfl (exec_catS rfl (by rfl) (by rfl) HC.out) ?_) | (go_at_call 15; refine (HG2.out _).mono ?_; rintro e u4 ⟨rfl, rfl⟩) | (refine wl_value rfl (exec_cvIUi (m := m) rfl (by rfl) (by omega)) ?_) | (refine wl_value rfl (exec_mulUi (i := 8) (m := m) rfl (by rfl) (by rfl) rfl (by omega)) ?_) | (refine wl_value rfl (exec_shl1 (z := m) rfl (by rfl) (by rfl) h7 HQ.out) ?_) | (refine wl_value rfl (exec_remU (i := N) (m := Q) rfl (by rfl) (by rfl) HEQ.out hQ0) ?_))
      go_ret
      exact ⟨rfl, hBd⟩
    · have h7i : ¬ (m : Int) < 8 := by omega
      have hm8 : m = 8 := by omega
      have hrN : (N : Int) = (r : Int) := by
        have := HEQ.out
        have e8 : (256 : Nat) ^ 8 = 18446744073709551616 := by decide
        rw [hm8, e8, Nat.mod_eq_of_lt hN] at this
        rw [this]
      have HRN := Hid.mk hrN.symm
      clear HEQ hrN hm8
      go_wp2_with (first | (refine wl_value rfl (exec_neqS rfl (by rfl) (by rfl) rfl) ?_) | (refine wl_value rfl (exec_catS rfl (by rfl) (by rfl) HC.out) ?_) | (go_at_call 15; refine (HG2.out _).mono ?_; rintro e u4 ⟨rfl, rfl⟩) | (refine wl_value rfl (exec_eqUb rfl (by rfl) (by rfl) HRN.out) ?_))
      go_ret
      exact ⟨rfl, hBd⟩
  · have hPe : P = ⟨#[]⟩ := by
      rw [← hP]
      unfold putR
      rw [if_neg hz]
      rfl
    subst hPe
    by_cases h1 : z < 1
    · go_wp2_with (first | (refine wl_value rfl (exec_neqS rfl (by rfl) (by rfl) rfl) ?_) | (refine wl_value rfl (exec_eqS (s := ⟨#[]⟩) rfl (by rfl) (by rfl)) ?_))
      go_ret
      exact ⟨rfl, hBd⟩
    · have h8 : 8 < z := by omega
      go_wp2_with (first | (refine wl_value rfl (exec_neqS rfl (by rfl) (by rfl) rfl) ?_) | (refine wl_value rfl (exec_eqS (s := ⟨#[]⟩) rfl (by rfl) (by rfl)) ?_))
      go_ret
      exact ⟨rfl, hBd⟩
theorem numbers_walk (n z a : Int) (s : ByteArray) (w : World) (wn : (Lit.int .u64 n).wf = true) (_wz : (Lit.int .i64 z).wf = true) (_wa : (Lit.int .i64 a).wf = true) (hs : s.size ≤ 2000000) (hE : Env w) : Calls Tryd.prog 5 #[.agg (SC 4 (nuV n z a s))] w fun e w' => e = .returned (.bool true) ∧ Below w.heap.size w w' := by
  have hb := bounds_u64 wn
  obtain ⟨N, hN⟩ : ∃ N : Nat, n = (N : Int) := ⟨n.toNat, by omega⟩
  subst hN
  exact numbers_nat N z a s w (by omega) hs hE
end Go.Proofs.YtklgpmpmolphaaaDoor
