/-
  Own text. Steps over texts for regions that leave their order open; texts in pieces.
-/
import Derived.Test.YtfgebcemdjplnaaD4
import Derived.Deep.OwnRows
namespace Go.Proofs.Ytfgebcemdjplnaa
open Go.RowKit Go.Proofs
theorem exec_lenS {a : Act} {o : Oper} {w : World} {x : Operand} (ho : o.op = .call { callee := .builtin .len, args := #[x], argTypes := #[9] }) {s : ByteArray} (hx : a.eval x = .string s) : (execOp a.eval o).run Try.prog w = .ok (.value (.int .i64 (s.size : Int))) w := by
  have hr := run_len_string (P := Try.prog) w 9 o.type s Try.underlying9
  simp [execOp, ho, resolve, invoke, builtin, hx, hr, goInt]
theorem exec_bin2 {a : Act} {o : Oper} {w : World} {x y : Operand} {op : BinOp} {t u : TypeId} (ho : o.op = .binOp op t x y u) {X Y V : Value} (hx : a.eval x = X) (hy : a.eval y = Y) (hg : (eqGuard op t x y X Y).run Try.prog w = .ok () w) (hr : (binOp op t X Y).run Try.prog w = .ok V w) :
    (execOp a.eval o).run Try.prog w = .ok (.value V) w := exec_bin ho hg hx hy hr
theorem exec_neqI {a : Act} {o : Oper} {w : World} {x y : Operand} (ho : o.op = .binOp .neq 3 x y 3) {m n : Int} (hx : a.eval x = .int .i64 m) (hy : a.eval y = .int .i64 n) (e : m = n) : (execOp a.eval o).run Try.prog w = .ok (.value (.bool false)) w := by
  subst e
  exact exec_bin2 ho hx hy rfl (by simp [go_sem])
theorem exec_neq8 {a : Act} {o : Oper} {w : World} {x y : Operand} (ho : o.op = .binOp .neq 5 x y 5) {m n : Int} (hx : a.eval x = .int .u8 m) (hy : a.eval y = .int .u8 n) (e : m = n) : (execOp a.eval o).run Try.prog w = .ok (.value (.bool false)) w := by
  subst e
  exact exec_bin2 ho hx hy rfl (by simp [go_sem])
theorem exec_neqS {a : Act} {o : Oper} {w : World} {x y : Operand} (ho : o.op = .binOp .neq 9 x y 9) {s t : ByteArray} (hx : a.eval x = .string s) (hy : a.eval y = .string t) (e : s = t) : (execOp a.eval o).run Try.prog w = .ok (.value (.bool false)) w := by
  subst e
  exact exec_bin2 ho hx hy rfl (by simp [go_sem])
theorem exec_catS {a : Act} {o : Oper} {w : World} {x y : Operand} (ho : o.op = .binOp .add 9 x y 9) {s t : ByteArray} (hx : a.eval x = .string s) (hy : a.eval y = .string t) (hl : s.size + t.size ≤ 9223372036854775807) : (execOp a.eval o).run Try.prog w = .ok (.value (.string (s ++ t))) w := by
  exact exec_bin2 ho hx hy rfl (by simp [go_sem, hl])
theorem exec_quo {a : Act} {o : Oper} {w : World} {x : Operand} (ho : o.op = .binOp .quo 3 x (.const (.int .i64 64)) 3) {p : Nat} (hx : a.eval x = .int .i64 ((64 * p : Nat) : Int)) (hp : p < 1000000000000000) : (execOp a.eval o).run Try.prog w = .ok (.value (.int .i64 (p : Int))) w := by
  have e2 := i64_wrap (n := (p : Int)) (by omega) (by omega)
  refine exec_bin2 ho hx rfl rfl ?_
  simp [go_sem, e2]
theorem conv_u32 (n : Nat) (w : World) : (convert 3 22 (.int .i64 (n : Int))).run Try.prog w = .ok (.int .u32 ((n : Int) % 4294967296)) w := by
  simp [go_sem, IntKind.wrap_u32']
theorem exec_slH {a : Act} {o : Oper} {w : World} {x y : Operand} {t : TypeId} (ho : o.op = .slice t x none (some y) none) {v u r : Value} (hx : a.eval x = v) (hy : a.eval y = u) (hr : (Instr.sliceAt t v none (some u) none).run Try.prog w = .ok r w) : (execOp a.eval o).run Try.prog w = .ok (.value r) w := by
  unfold execOp
  simp [ho, hx, hy, hr]
theorem strH (s : ByteArray) (n : Nat) (w : World) (h : n ≤ s.size) : (Instr.sliceAt 9 (.string s) none (some (.int .i64 (n : Int))) none).run Try.prog w = .ok (.string (s.extract 0 n)) w := by
  have h2 : (n : Int) ≤ (s.size : Int) := by omega
  simp [go_sem, h2]
theorem strL (s : ByteArray) (n : Nat) (w : World) (h : n ≤ s.size) : (Instr.sliceAt 9 (.string s) (some (.int .i64 (n : Int))) none none).run Try.prog w = .ok (.string (s.extract n s.size)) w := by
  have h2 : (n : Int) ≤ (s.size : Int) := by omega
  simp [go_sem, h2]
theorem made128 : madeCells #[Value.int .u8 0] 128 = WA .u8 128 (fun _ => 0) := by kernel_rfl
theorem make128 (w : World) : (Instr.makeSlice 32 (.int .i64 128) (.int .i64 128)).run Try.prog w = .ok (.slice (some ⟨w.heap.size, 0, none⟩) 128 128) (w.alloc (.cells (WA .u8 128 fun _ => 0) 5)) := by
  have h := run_make_row' (P := Try.prog) 32 5 (.int .u8 0) 1 Try.underlying32 infoByte rfl .i64 .i64 128 (by omega) (by omega) w
  rw [made128] at h
  exact h
theorem act_make {o : Oper} {a : Act} {w : World} {K : Act → World → Prop} {Q : Exit → Act → World → Prop} (ho : o.op = .makeSlice 32 (.const (.int .i64 128)) (.const (.int .i64 128)))
    (h : ∀ w', Below w.heap.size w w' → ArrAt w' w.heap.size .u8 5 128 (fun _ => 0) → K (a.put o.dst (.slice (some ⟨w.heap.size, 0, none⟩) 128 128)) w') : o.wp Try.prog a w K Q := by
  have hz := make128 w
  unfold Oper.wp execOp
  simp only [ho, Act.eval, Sem.run_bind, hz, Result.andThen_ok, Sem.run_pure, Oper.upon]
  exact h _ ((Below.refl _ _).alloc (Nat.le_refl _) _) (heap_alloc_new w _)
theorem bytesL_at {n : Nat} {f : Nat → Int} {j : Nat} (h : j < n) : (bytesL n f)[j]? = some (UInt8.ofNat (f j).toNat) := by simp [bytesL, h]
theorem bytesL_cat (n m : Nat) (f g : Nat → Int) : bytesL n f ++ bytesL m g = bytesL (n + m) (cat n f g) := by
  apply List.ext_getElem?
  intro i
  by_cases h : i < n
  · rw [List.getElem?_append_left (by rw [bytesL_len]; exact h), bytesL_at h, bytesL_at (by omega)]; simp [cat, h]
  · rw [List.getElem?_append_right (by rw [bytesL_len]; omega), bytesL_len]
    by_cases h2 : i < n + m
    · rw [bytesL_at (by omega), bytesL_at h2]; simp [cat, h]
    · rw [List.getElem?_eq_none (by rw [bytesL_len]; omega), List.getElem?_eq_none (by rw [bytesL_len]; omega)]
/-- Texts behind one another. -/
theorem mkS_append (n m : Nat) (f g : Nat → Int) : mkS n f ++ mkS m g = mkS (n + m) (cat n f g) := by
  apply ByteArray.ext
  rw [ByteArray.data_append]
  show (bytesL n f).toArray ++ (bytesL m g).toArray = (bytesL (n + m) (cat n f g)).toArray
  rw [List.append_toArray, bytesL_cat]
theorem txt_take (s : ByteArray) (n j : Nat) (h : j < n) (hn : n ≤ s.size) : txt (s.extract 0 n) j = txt s j := by
  have h1 : j < (s.extract 0 n).size := by rw [ByteArray.size_extract]; omega
  have h2 : j < s.size := by omega
  rw [← txt_get h1, ← txt_get h2]
  congr 2
  rw [ByteArray.getElem_extract h1]
  simp
theorem take_size (s : ByteArray) (n : Nat) (h : n ≤ s.size) : (s.extract 0 n).size = n := by
  rw [ByteArray.size_extract]; omega
theorem ksb_on (key nonce : Nat → Int) (c : Int) (p j : Nat) (h : 64 * p ≤ j) : ksb key nonce ((c + (p : Nat)) % 4294967296) (j - 64 * p) = ksb key nonce c j := by
  unfold ksb
  have e1 : (j - 64 * p) % 64 = j % 64 := by omega
  have e2 : ((c + (p : Nat)) % 4294967296 + ((j - 64 * p) / 64 : Nat)) % 4294967296 = (c + (j / 64 : Nat)) % 4294967296 := by omega
  rw [e1, e2]
/-- A text in two pieces, the first of p blocks. -/
theorem strm_cut (key nonce : Nat → Int) (c : Int) (s : ByteArray) (p : Nat) (hp : 64 * p ≤ s.size) :
    mkS (s.extract 0 (64 * p)).size (strm key nonce c (s.extract 0 (64 * p))) ++ mkS (s.extract (64 * p) s.size).size (strm key nonce ((c + (p : Nat)) % 4294967296) (s.extract (64 * p) s.size)) = mkS s.size (strm key nonce c s) := by
  rw [take_size s _ hp, extract_size, mkS_append, show 64 * p + (s.size - 64 * p) = s.size by omega]
  refine mkS_congr (fun j hj => ?_)
  unfold cat
  split
  · rename_i h
    unfold strm
    rw [txt_take s _ j h hp]
  · rename_i h
    unfold strm
    rw [ksb_on key nonce c p j (by omega), txt_extract s (64 * p) (j - 64 * p) (by omega), show 64 * p + (j - 64 * p) = j by omega]
theorem txt_zeros (n j : Nat) : txt (mkS n fun _ => 0) j = 0 := by
  by_cases h : j < n
  · exact txt_mkS (f := fun _ => 0) (by omega) h
  · unfold txt mkS bytesL
    simp [h]
theorem xorw_zero {x : Int} (h : 0 ≤ x) : xorw 0 x = x := by
  unfold xorw
  simp
  omega
theorem ksb_b (key nonce : Nat → Int) (c : Int) (j : Nat) : 0 ≤ ksb key nonce c j ∧ ksb key nonce c j < 256 := blk_b _ _ (Nat.mod_lt _ (by decide))
theorem strm_zeros (key nonce : Nat → Int) (c : Int) (n j : Nat) : strm key nonce c (mkS n fun _ => 0) j = ksb key nonce c j := by
  unfold strm
  rw [txt_zeros, xorw_zero (ksb_b key nonce c j).1]
/-- Zeros are the blocks. -/
theorem strm_blocks (key nonce : Nat → Int) (c : Int) (hc : W32 c) : mkS 64 (blk (ssq key c nonce 3)) ++ mkS 64 (blk (ssq key (addw c 1) nonce 3)) = mkS (mkS 128 fun _ => 0).size (strm key nonce c (mkS 128 fun _ => 0)) := by
  rw [mkS_append, mkS_size]
  refine mkS_congr (fun j hj => ?_)
  rw [strm_zeros]
  unfold cat ksb
  unfold W32 at hc
  split
  · rename_i h
    rw [show j / 64 = 0 by omega, show j % 64 = j by omega, show (c + (0 : Nat)) % 4294967296 = c by omega]
  · rename_i h
    rw [show j / 64 = 1 by omega, show j % 64 = j - 64 by omega]
    rfl
theorem xor_three {x k : Int} (hx : 0 ≤ x ∧ x < 256) (hk : 0 ≤ k ∧ k < 256) : xorw (xorw x k) k = x := xorw_back8 hx hk
theorem pick_run (c n : Int) (w : World) (h0 : -9223372036854775808 ≤ c) (h1 : c ≤ 9223372036854775807) (hn : 0 < n) (hn2 : n ≤ 9223372036854775807) :
    Calls Try.prog 17 #[.int .i64 c, .int .i64 n] w fun e w' => (∃ p : Nat, (p : Int) < n ∧ e = .returned (.int .i64 (p : Int))) ∧ w' = w := by
  by_cases hc : c < 0
  · go_enter Try.func17, Try.ntmps17
    have HE : Hid (-(c + 1).tmod n = ((((-(c + 1)) % n).toNat : Nat) : Int)) := Hid.mk (by
      rw [← Int.neg_tmod, Int.tmod_eq_emod_of_nonneg (by omega), Int.toNat_of_nonneg (Int.emod_nonneg _ (by omega))])
    have hl := Int.emod_lt_of_pos (-(c + 1)) hn
    have hp := Int.emod_nonneg (-(c + 1)) (b := n) (by omega)
    go_wp2
    go_ret
    exact ⟨⟨((-(c + 1)) % n).toNat, by omega, by rw [← HE.out]; rfl⟩, rfl⟩
  · have e : c % n = (((c % n).toNat : Nat) : Int) := by rw [Int.toNat_of_nonneg (Int.emod_nonneg _ (by omega))]
    have hl := Int.emod_lt_of_pos c hn
    have hp := Int.emod_nonneg c (b := n) (by omega)
    have HE := Hid.mk e
    clear e
    go_enter Try.func17, Try.ntmps17
    go_wp2
    go_ret
    exact ⟨⟨(c % n).toNat, by omega, by rw [← HE.out]; rfl⟩, rfl⟩
end Go.Proofs.Ytfgebcemdjplnaa
