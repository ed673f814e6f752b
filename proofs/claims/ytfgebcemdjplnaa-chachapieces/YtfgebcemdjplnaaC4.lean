/-
  Own text. Copies into arrays; slices of arrays; steps for regions that leave their order open.
-/
import Derived.Test.YtfgebcemdjplnaaC3
import Derived.Test.YtfgebcemdjplnaaB7
import Derived.Laws.CopyOwn
namespace Go.Proofs.Ytfgebcemdjplnaa
open Go.RowKit Go.Proofs
/-- A row, with others laid over a part of it. -/
def over (s : Nat → Int) (off m : Nat) (r : Nat → Int) (i : Nat) : Int := if off ≤ i ∧ i < off + m then r (i - off) else s i
theorem over_putw (s : Nat → Int) (k : Nat) (v : Int) : over s (4 * k) 4 (b4 v) = putw s k v := by
  funext i
  unfold over putw upd b4
  by_cases h0 : i = 4 * k
  · subst h0; simp
  by_cases h1 : i = 4 * k + 1
  · subst h1; simp
  by_cases h2 : i = 4 * k + 2
  · subst h2; simp
  by_cases h3 : i = 4 * k + 3
  · subst h3; simp
  rw [if_neg (by omega), if_neg h3, if_neg h2, if_neg h1, if_neg h0]
theorem copy_arr {w : World} {g off dL dC b f sL sC n m : Nat} {t : TypeId} {s r : Nat → Int} (ty : TypeId) (hg : ArrAt w g .u8 t n s) (hm : m = Nat.min sL dL) (hfit : off + m ≤ n) (hr : ∀ j, j < m → w.cell? ⟨b, f + j, none⟩ = some (.int .u8 (r j))) :
    ∃ w', (Builtin.copy_ #[32, 32] ty #[.slice (some ⟨g, off, none⟩) dL dC, .slice (some ⟨b, f, none⟩) sL sC]).run Try.prog w = .ok (goInt m) w' ∧ ArrAt w' g .u8 t n (over s off m r) ∧ Only g w w' := by
  have h0 := run_copy_cells (P := Try.prog) w 32 32 ty 5 g off dL dC ⟨b, f, none⟩ sL sC (nums .u8 m r) Try.underlying32 (by kernel_rfl) (by rw [nums_len]; exact hm)
    (fun j v hj => by
      obtain ⟨hj2, rfl⟩ := nums_get hj
      rw [Addr.add_lit]
      exact hr j hj2)
    (fun j hj => by rw [nums_len] at hj; rw [hg.cell _ (by omega)]; rfl) (fun j _ => hg.free _) nums_one
  rw [nums_len] at h0
  obtain ⟨C', h1, h2, h3, h4, h5⟩ := setCells_heap (nums .u8 m r) off w _ hg (by rw [nums_len, WA_size]; exact hfit)
  rw [nums_len] at h3 h4
  rw [WA_size] at h2
  have e : C' = WA .u8 n (over s off m r) := WA_ext h2 (fun i hi => by
    unfold over
    by_cases h : off ≤ i ∧ i < off + m
    · rw [if_pos h]
      have := h3 (i - off) (by omega)
      rw [show off + (i - off) = i by omega] at this
      rw [this, nums_at .u8 m r (by omega)]
    · rw [if_neg h, h4 i (by omega), WA_get .u8 n s i hi])
  exact ⟨_, h0, by unfold ArrAt; rw [h1, e], h5⟩
theorem act_copy {o : Oper} {a : Act} {w : World} {K : Act → World → Prop} {Q : Exit → Act → World → Prop} {d s' : Operand} (ho : o.op = .call { callee := .builtin .copy, args := #[d, s'], argTypes := #[32, 32] })
    {g off dL dC b f sL sC n m : Nat} {t : TypeId} {s r : Nat → Int} (hd : a.eval d = .slice (some ⟨g, off, none⟩) dL dC) (hs : a.eval s' = .slice (some ⟨b, f, none⟩) sL sC) (hg : ArrAt w g .u8 t n s) (hm : m = Nat.min sL dL) (hfit : off + m ≤ n) (hr : ∀ j, j < m → w.cell? ⟨b, f + j, none⟩ = some (.int .u8 (r j)))
    (h : ∀ w', ArrAt w' g .u8 t n (over s off m r) → Only g w w' → K (a.put o.dst (goInt m)) w') : o.wp Try.prog a w K Q := by
  obtain ⟨w', hrun, h1, h2⟩ := copy_arr (dC := dC) (sC := sC) o.type hg hm hfit hr
  unfold Oper.wp
  simp [execOp, ho, resolve, invoke, builtin, hd, hs, hrun, Result.andThen]
  exact h w' h1 h2
theorem exec_slL {a : Act} {o : Oper} {w : World} {x y : Operand} {t : TypeId} (ho : o.op = .slice t x (some y) none none) {v u r : Value} (hx : a.eval x = v) (hy : a.eval y = u) (hr : (Instr.sliceAt t v (some u) none none).run Try.prog w = .ok r w) : (execOp a.eval o).run Try.prog w = .ok (.value r) w := by
  unfold execOp
  simp [ho, hx, hy, hr]
theorem len64 : Try.prog.arrayLen 33 = 64 := by kernel_rfl
theorem len32 : Try.prog.arrayLen 29 = 32 := by kernel_rfl
theorem slArrL {t : TypeId} {n : Nat} (ht : Try.prog.underlying t = some (.array (Try.prog.arrayLen t) (Try.prog.elem t))) (hn : Try.prog.arrayLen t = n) (h1 : ∀ w, (sizeOf (Try.prog.elem t)).run Try.prog w = .ok 1 w) (b l : Nat) (w : World) (hl : l < n) :
    (Instr.sliceAt t (.pointer (some ⟨b, 0, none⟩)) (some (.int .i64 (l : Int))) none none).run Try.prog w = .ok (.slice (some ⟨b, l, none⟩) (n - l) (n - l)) w := by
  rw [run_sliceAt_array_l (P := Try.prog) w t ⟨b, 0, none⟩ ht .i64 (l : Int) (by omega) (by rw [hn]; omega), h1, hn]
  simp only [Result.andThen_ok, slicedAt, Int.toNat_natCast, Nat.mul_one]
  rw [if_neg (by omega), Addr.add_lit, Nat.zero_add]
theorem sizeB64 (w : World) : (sizeOf (Try.prog.elem 33)).run Try.prog w = .ok 1 w := by kernel_rfl
theorem sizeB32 (w : World) : (sizeOf (Try.prog.elem 29)).run Try.prog w = .ok 1 w := by kernel_rfl
theorem sl64L (b k : Nat) (w : World) (hk : k < 16) : (Instr.sliceAt 33 (.pointer (some ⟨b, 0, none⟩)) (some (.int .i64 (4 * (k : Int)))) none none).run Try.prog w = .ok (.slice (some ⟨b, 4 * k, none⟩) (64 - 4 * k) (64 - 4 * k)) w :=
  slArrL Try.underlying33 len64 sizeB64 b (4 * k) w (by omega)
theorem sl32L (b l : Nat) (w : World) (hl : l < 32) : (Instr.sliceAt 29 (.pointer (some ⟨b, 0, none⟩)) (some (.int .i64 (l : Int))) none none).run Try.prog w = .ok (.slice (some ⟨b, l, none⟩) (32 - l) (32 - l)) w :=
  slArrL Try.underlying29 len32 sizeB32 b l w hl
theorem sl16 (b : Nat) (w : World) : (Instr.sliceAt 31 (.pointer (some ⟨b, 0, none⟩)) none none none).run Try.prog w = .ok (.slice (some ⟨b, 0, none⟩) 16 16) w := by simp [go_sem]
theorem sl12 (b : Nat) (w : World) : (Instr.sliceAt 30 (.pointer (some ⟨b, 0, none⟩)) none none none).run Try.prog w = .ok (.slice (some ⟨b, 0, none⟩) 12 12) w := by simp [go_sem]
theorem sl16L (b : Nat) (w : World) : (Instr.sliceAt 31 (.pointer (some ⟨b, 0, none⟩)) (some (.int .i64 4)) none none).run Try.prog w = .ok (.slice (some ⟨b, 4, none⟩) 12 12) w := by simp [go_sem]
theorem enterBytes (args : Array Value) (w : World) : (callFunc 22 args).run Try.prog w = .ok (.enter 22 args) w := by kernel_rfl
theorem exec_conv {a : Act} {o : Oper} {w : World} {x : Operand} {s t : TypeId} (ho : o.op = .convert s t x) {v r : Value} (hx : a.eval x = v) (hr : (convert s t v).run Try.prog w = .ok r w) : (execOp a.eval o).run Try.prog w = .ok (.value r) w := by
  unfold execOp
  simp [ho, hx, hr]
theorem conv32 {c : Int} (hc : W32 c) (w : World) : (convert 22 3 (.int .u32 c)).run Try.prog w = .ok (.int .i64 c) w := by
  unfold W32 at hc
  simp [go_sem, i64_wrap (n := c) (by omega) (by omega)]
end Go.Proofs.Ytfgebcemdjplnaa
