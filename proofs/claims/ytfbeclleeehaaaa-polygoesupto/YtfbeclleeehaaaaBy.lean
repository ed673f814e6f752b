/-
  Own text. Texts: their bytes as numbers, slices, sums, conversions.
-/
import Derived.Test.YtfbeclleeehaaaaBx
import Derived.Laws.IdiomStrings
import Derived.Lib.UnsafeStr
import Derived.SizedLaws
namespace Go.Proofs.Ytfbeclleeehaaaa
open Go.RowKit Go.Proofs
/-- Byte j of a text. -/
def txt (s : ByteArray) (j : Nat) : Int := ((s.data.toList.getD j 0).toNat : Int)
theorem txt_b (s : ByteArray) (j : Nat) : 0 ≤ txt s j ∧ txt s j < 256 := by
  unfold txt
  have := (s.data.toList.getD j 0).toNat_lt
  omega
def bytesL (n : Nat) (f : Nat → Int) : List UInt8 := (List.range n).map fun j => UInt8.ofNat (f j).toNat
/-- The text of these bytes. -/
def mkS (n : Nat) (f : Nat → Int) : ByteArray := ⟨(bytesL n f).toArray⟩
theorem mkS_size (n : Nat) (f : Nat → Int) : (mkS n f).size = n := by
  show (bytesL n f).toArray.size = n
  simp [bytesL]
theorem bytesL_len (n : Nat) (f : Nat → Int) : (bytesL n f).length = n := by simp [bytesL]
theorem txt_mkS {n : Nat} {f : Nat → Int} {j : Nat} (hf : 0 ≤ f j ∧ f j < 256) (h : j < n) : txt (mkS n f) j = f j := by
  unfold txt mkS bytesL
  simp [h]
  omega
theorem mkS_congr {n : Nat} {f g : Nat → Int} (h : ∀ j, j < n → f j = g j) : mkS n f = mkS n g := by
  unfold mkS bytesL
  congr 2
  exact List.map_congr_left (fun j hj => by rw [h j (List.mem_range.1 hj)])
theorem mkS_txt (s : ByteArray) : mkS s.size (txt s) = s := by
  unfold mkS bytesL
  obtain ⟨d⟩ := s
  congr 1
  apply Array.ext
  · simp
    rfl
  · intro i h1 h2
    simp [txt, h2]
theorem nums_bytes {n : Nat} {f : Nat → Int} (hf : ∀ j, j < n → 0 ≤ f j ∧ f j < 256) : nums .u8 n f = Lib.byteCells (bytesL n f) := by
  unfold nums Lib.byteCells bytesL
  rw [List.map_map]
  exact List.map_congr_left (fun j hj => by
    have := hf j (List.mem_range.1 hj)
    simp
    omega)
theorem txt_get {s : ByteArray} {j : Nat} (h : j < s.size) : (((s[j]'h).toNat : Nat) : Int) = txt s j := by
  unfold txt
  have : j < s.data.toList.length := by simpa using h
  rw [List.getD_eq_getElem?_getD, List.getElem?_eq_getElem this]
  rfl
theorem txt_extract (s : ByteArray) (a j : Nat) (h : a + j < s.size) : txt (s.extract a s.size) j = txt s (a + j) := by
  have h1 : j < (s.extract a s.size).size := by rw [ByteArray.size_extract]; omega
  rw [← txt_get h1, ← txt_get h]
  congr 2
  exact ByteArray.getElem_extract h1
theorem extract_size (s : ByteArray) (a : Nat) : (s.extract a s.size).size = s.size - a := by
  simp
theorem exec_ixs {a : Act} {o : Oper} {w : World} {x y : Operand} (ho : o.op = .index 9 x y) {s : ByteArray} {j : Nat} (hx : a.eval x = .string s) (hy : a.eval y = .int .i64 (j : Int)) (hj : j < s.size) : (execOp a.eval o).run Try.prog w = .ok (.value (.int .u8 (txt s j))) w := by
  unfold execOp
  simp only [ho, hx, hy, Sem.run_bind]
  rw [run_index_string w 9 s .i64 (j : Int) Try.underlying9, dif_pos ⟨by omega, by omega⟩]
  simp only [Result.andThen_ok, Sem.run_pure, Int.toNat_natCast]
  rw [txt_get hj]
theorem conv_str (s : ByteArray) (w : World) : ∃ cp v, (convert 9 36 (.string s)).run Try.prog w = .ok (.slice (some ⟨w.heap.size, 0, none⟩) s.size cp) v ∧ RowAt v w.heap.size .u8 5 s.size (txt s) ∧ Below w.heap.size w v := by
  refine ⟨_, _, run_bytes_of_string w 9 36 5 s Try.underlying9 Try.underlying36 Try.underlying5, ⟨_, heap_alloc_new w.drew _, _, _, rfl, ?_, ?_, ?_⟩, (Below.refl _ w).drew.alloc (Nat.le_refl _) _⟩
  · simp only [bytesRow, Array.size_append, Array.size_map]
    have : s.data.size = s.size := rfl
    omega
  · intro i hi
    have : s.data.size = s.size := rfl
    simp only [bytesRow, Array.size_append, Array.size_map]
    omega
  · intro i hi
    have hi2 : i < s.data.size := hi
    unfold bytesRow
    rw [Array.getElem?_append_left (by simpa using hi2)]
    simp [txt]
    exact ⟨_, Array.getElem?_eq_getElem hi2, by rw [Array.getElem?_eq_getElem hi2]; rfl⟩
theorem str_back {ty : TypeId} (a b cp : Nat) (w : World) (n : Nat) (f : Nat → Int) (hR : RowAt w b .u8 ty n f) (hf : ∀ j, j < n → 0 ≤ f j ∧ f j < 256) (ha : a = n) : (convert 36 9 (.slice (some ⟨b, 0, none⟩) a cp)).run Try.prog w = .ok (.string (mkS n f)) w := by
  subst ha
  have h := run_convert_bytes_back (P := Try.prog) w 36 9 5 ⟨b, 0, none⟩ cp (bytesL a f) Try.underlying36 Try.underlying5 Try.underlying9 (fun j hj => by
    rw [bytesL_len] at hj
    rw [Addr.add_lit, Nat.zero_add, hR.cell j hj]
    have := hf j hj
    simp [bytesL]
    omega)
  rw [bytesL_len] at h
  exact h
theorem reach_size {s : ByteArray} (h : s.data.toList.length ≤ reachBytes) : s.size ≤ 140737488351232 := by
  have e : s.size = s.data.toList.length := by simp
  rw [e]
  exact h
theorem exec_lenS {a : Act} {o : Oper} {w : World} {x : Operand} (ho : o.op = .call { callee := .builtin .len, args := #[x], argTypes := #[9] }) {s : ByteArray} (hx : a.eval x = .string s) : (execOp a.eval o).run Try.prog w = .ok (.value (.int .i64 (s.size : Int))) w := by
  have hr := run_len_string (P := Try.prog) w 9 o.type s Try.underlying9
  simp [execOp, ho, resolve, invoke, builtin, hx, hr, goInt]
theorem exec_neqS {a : Act} {o : Oper} {w : World} {x y : Operand} (ho : o.op = .binOp .neq 9 x y 9) {s t : ByteArray} (hx : a.eval x = .string s) (hy : a.eval y = .string t) (e : s = t) : (execOp a.eval o).run Try.prog w = .ok (.value (.bool false)) w := by
  subst e
  exact exec_bin2 ho hx hy rfl (by simp [go_sem])
theorem exec_catS {a : Act} {o : Oper} {w : World} {x y : Operand} (ho : o.op = .binOp .add 9 x y 9) {s t : ByteArray} (hx : a.eval x = .string s) (hy : a.eval y = .string t) (hl : s.size + t.size ≤ 9223372036854775807) : (execOp a.eval o).run Try.prog w = .ok (.value (.string (s ++ t))) w := by
  exact exec_bin2 ho hx hy rfl (by simp [go_sem, hl])
theorem strH (s : ByteArray) (n : Nat) (w : World) (h : n ≤ s.size) : (Instr.sliceAt 9 (.string s) none (some (.int .i64 (n : Int))) none).run Try.prog w = .ok (.string (s.extract 0 n)) w := by
  have h2 : (n : Int) ≤ (s.size : Int) := by omega
  simp [go_sem, h2]
theorem strL (s : ByteArray) (n : Nat) (w : World) (h : n ≤ s.size) : (Instr.sliceAt 9 (.string s) (some (.int .i64 (n : Int))) none none).run Try.prog w = .ok (.string (s.extract n s.size)) w := by
  have h2 : (n : Int) ≤ (s.size : Int) := by omega
  simp [go_sem, h2]
theorem bytesL_at {n : Nat} {f : Nat → Int} {j : Nat} (h : j < n) : (bytesL n f)[j]? = some (UInt8.ofNat (f j).toNat) := by simp [bytesL, h]
theorem bytesL_cat (n m : Nat) (f g : Nat → Int) : bytesL n f ++ bytesL m g = bytesL (n + m) (cat n f g) := by
  apply List.ext_getElem?
  intro i
  by_cases h : i < n
  · rw [List.getElem?_append_left (by rw [bytesL_len]; exact h), bytesL_at h, bytesL_at (by omega)]; simp [cat, h]
  · rw [List.getElem?_append_right (by rw [bytesL_len]; omega), bytesL_len]
    by_cases h2 : i < n + m
    · rw [bytesL_at (by omega), bytesL_at h2]; simp [cat, h]
    · rw [List.getElem?_eq_none (by rw [bytesL_len]; omega), List.getElem?_eq_none (by rw [bytesL_len]; omega)]
/-- Texts behind one another. -/
theorem mkS_append (n m : Nat) (f g : Nat → Int) : mkS n f ++ mkS m g = mkS (n + m) (cat n f g) := by
  apply ByteArray.ext
  rw [ByteArray.data_append]
  show (bytesL n f).toArray ++ (bytesL m g).toArray = (bytesL (n + m) (cat n f g)).toArray
  rw [List.append_toArray, bytesL_cat]
theorem txt_take (s : ByteArray) (n j : Nat) (h : j < n) (hn : n ≤ s.size) : txt (s.extract 0 n) j = txt s j := by
  have h1 : j < (s.extract 0 n).size := by rw [ByteArray.size_extract]; omega
  have h2 : j < s.size := by omega
  rw [← txt_get h1, ← txt_get h2]
  congr 2
  rw [ByteArray.getElem_extract h1]
  simp
theorem take_size (s : ByteArray) (n : Nat) (h : n ≤ s.size) : (s.extract 0 n).size = n := by
  rw [ByteArray.size_extract]; omega
theorem txt_zeros (n j : Nat) : txt (mkS n fun _ => 0) j = 0 := by
  by_cases h : j < n
  · exact txt_mkS (f := fun _ => 0) (by omega) h
  · unfold txt mkS bytesL
    simp [h]
end Go.Proofs.Ytfbeclleeehaaaa
