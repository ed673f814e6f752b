/-
  Own text. Poly1305 by numbers: r, s, the blocks, the mark.
-/
import Derived.Test.YtfbeclleeehaaaaP4
namespace Go.Proofs.Ytfbeclleeehaaaa
open Go.RowKit Go.Proofs
/-- Digit i of r. -/
def rdig (key : Nat → Int) (i : Nat) : Int := if i % 4 = 3 then key i % 16 else if 0 < i ∧ i % 4 = 0 then key i / 4 * 4 else key i
def rN (key : Nat → Int) : Int := dval (rdig key) 16
def sN (key : Nat → Int) : Int := dval (fun i => key (16 + i)) 16
theorem rdig_b {key : Nat → Int} (hk : Byts 32 key) : Dg 256 16 (rdig key) := fun i hi => by
  have := hk i (by omega)
  unfold rdig
  split
  · omega
  · split <;> omega
/-- The number of a block: n bytes from at on, and a byte 1 behind them. -/
def blkN (f : Nat → Int) (at' n : Nat) : Int := dval (fun i => f (at' + i)) n + 256 ^ n
/-- What has come together behind k blocks. -/
def accN (r : Int) (f : Nat → Int) (L : Nat) : Nat → Int
  | 0 => 0
  | k + 1 => (accN r f L k + blkN f (16 * k) (min 16 (L - 16 * k))) * r % P130
theorem accN_b (r : Int) (f : Nat → Int) (L k : Nat) : 0 ≤ accN r f L k ∧ accN r f L k < P130 := by
  cases k with
  | zero =>
    refine ⟨Int.le_refl _, ?_⟩
    show (0 : Int) < P130
    unfold P130
    decide
  | succ k => exact ⟨Int.emod_nonneg _ (by unfold P130; decide), Int.emod_lt_of_pos _ (by unfold P130; decide)⟩
/-- The mark, as a number. -/
def markN (key : Nat → Int) (f : Nat → Int) (L : Nat) : Int := (accN (rN key) f L ((L + 15) / 16) + sN key) % 340282366920938463463374607431768211456
/-- Digit i of a number. -/
def digN (X : Int) (i : Nat) : Int := X / 256 ^ i % 256
theorem digN_b (X : Int) (i : Nat) : 0 ≤ digN X i ∧ digN X i < 256 := by unfold digN; omega
theorem dig_of {e : Nat → Int} : ∀ {m : Nat}, Dg 256 m e → ∀ i, i < m → e i = digN (dval e m) i
  | 0, _, i, h => by omega
  | m + 1, he, i, h => by
    have hs := dval_shift e i (m + 1 - i)
    rw [show i + (m + 1 - i) = m + 1 by omega] at hs
    have h1 := dval_nonneg (s := e) (n := i) (fun j hj => (he j (by omega)).1)
    have h2 := dval_lt (s := e) (n := i) (fun j hj => he j (by omega))
    have h3 := dval_shift (fun j => e (i + j)) 1 (m - i)
    rw [show 1 + (m - i) = m + 1 - i by omega] at h3
    have h4 : dval (fun j => e (i + j)) 1 = e i := by simp [dval]
    rw [h4] at h3
    unfold digN
    rw [hs, Int.add_mul_ediv_left _ _ (Int.ne_of_gt (p256 i)), Int.ediv_eq_zero_of_lt h1 h2, Int.zero_add, h3]
    have h5 := he i h
    simp only [Int.pow_succ, Int.pow_zero, Int.one_mul]
    omega
theorem dval_high {e : Nat → Int} {m : Nat} (hm : 17 ≤ m) (he : Dg 256 m e) (hX : dval e m < W130) : dval e m = dval e 17 ∧ ∀ i, 17 ≤ i → i < m → e i = 0 := by
  have key : ∀ i, 17 ≤ i → i < m → e i = 0 := fun i h1 h2 => by
    have h3 := dval_one (s := e) (fun j hj => (he j hj).1) h2
    have h4 := he i h2
    rcases Int.lt_or_le 0 (e i) with h | h
    · exfalso
      have h5 : (256 : Int) ^ 17 ≤ 256 ^ i := by
        obtain ⟨d, hd⟩ : ∃ d, i = 17 + d := ⟨i - 17, by omega⟩
        rw [hd, Int.pow_add]
        have := p256 d
        have h6 : (256 : Int) ^ 17 * 1 ≤ 256 ^ 17 * 256 ^ d := Int.mul_le_mul_of_nonneg_left (by omega) (by decide)
        omega
      have h6 : (256 : Int) ^ i * 1 ≤ 256 ^ i * e i := Int.mul_le_mul_of_nonneg_left (by omega) (Int.le_of_lt (p256 i))
      have h7 : (256 : Int) ^ 17 = 87112285931760246646623899502532662132736 := by decide
      unfold W130 at hX
      omega
    · omega
  exact ⟨dval_tail hm (fun i h1 h2 => key i h1 h2), key⟩
/-- Adding a digit at a place. -/
theorem dval_add {s : Nat → Int} {i n : Nat} {v : Int} (h : i < n) : dval (upd s i (s i + v)) n = dval s n + 256 ^ i * v := by
  rw [dval_upd h, show s i + v - s i = v by omega]
/-- Digits of a sum as they come together: the first j of g added. -/
def addd (s g : Nat → Int) (j : Nat) (i : Nat) : Int := if i < j then s i + g i else s i
theorem addd_step (s g : Nat → Int) (j : Nat) : upd (addd s g j) j (addd s g j j + g j) = addd s g (j + 1) := by
  funext i
  unfold upd addd
  by_cases e : i = j
  · subst e; simp
  · rw [if_neg e]
    by_cases h : i < j
    · rw [if_pos h, if_pos (by omega)]
    · rw [if_neg h, if_neg (by omega)]
theorem dval_addd {s g : Nat → Int} : ∀ {j n : Nat}, j ≤ n → dval (addd s g j) n = dval s n + dval g j
  | 0, n, _ => by rw [dval_congr (t := s) (fun i _ => by unfold addd; rw [if_neg (by omega)])]; simp [dval]
  | j + 1, n, h => by
    rw [← addd_step, dval_add (by omega), dval_addd (by omega)]
    show _ = dval s n + (dval g j + 256 ^ j * g j)
    omega
theorem mkI (n : Nat) (hn : n ≤ 1000000) (h : madeCells #[Value.int .i64 0] n = WA .i64 n (fun _ => 0)) (w : World) : (Instr.makeSlice 45 (.int .i64 (n : Int)) (.int .i64 (n : Int))).run Try.prog w = .ok (.slice (some ⟨w.heap.size, 0, none⟩) n n) (w.alloc (.cells (WA .i64 n fun _ => 0) 3)) := by
  have h1 := run_make_row' (P := Try.prog) 45 3 (.int .i64 0) 8 Try.underlying45 infoInt rfl .i64 .i64 n (by omega) (by omega) w
  rw [h] at h1
  exact h1
theorem mk16 (w : World) : (Instr.makeSlice 45 (.int .i64 16) (.int .i64 16)).run Try.prog w = .ok (.slice (some ⟨w.heap.size, 0, none⟩) 16 16) (w.alloc (.cells (WA .i64 16 fun _ => 0) 3)) := mkI 16 (by decide) (by kernel_rfl) w
theorem mk40 (w : World) : (Instr.makeSlice 45 (.int .i64 40) (.int .i64 40)).run Try.prog w = .ok (.slice (some ⟨w.heap.size, 0, none⟩) 40 40) (w.alloc (.cells (WA .i64 40 fun _ => 0) 3)) := mkI 40 (by decide) (by kernel_rfl) w
theorem mk_step {ops : Array Oper} {rest : List Oper} {d : Option Tmp} {t : TypeId} {ps : String} {af : Array Edge} {a : Act} {w : World} {Q : Exit → Act → World → Prop} {n : Nat} (hr : (Instr.makeSlice 45 (.int .i64 (n : Int)) (.int .i64 (n : Int))).run Try.prog w = .ok (.slice (some ⟨w.heap.size, 0, none⟩) n n) (w.alloc (.cells (WA .i64 n fun _ => 0) 3)))
    (h : ∀ w2, ArrAt w2 w.heap.size .i64 3 n (fun _ => 0) → Below w.heap.size w w2 → w2.heap.size = w.heap.size + 1 → wpList Try.prog ops Q rest (a.put d (.slice (some ⟨w.heap.size, 0, none⟩) n n)) w2) :
    wpList Try.prog ops Q ({ dst := d, op := .makeSlice 45 (.const (.int .i64 (n : Int))) (.const (.int .i64 (n : Int))), type := t, pos := ps, after := af, guard := none } :: rest) a w := by
  refine wl_act rfl ?_
  unfold Oper.wp execOp
  simp only [Act.eval, Sem.run_bind, hr, Result.andThen_ok, Sem.run_pure, Oper.upon]
  exact h _ (heap_alloc_new w _) ((Below.refl _ _).alloc (Nat.le_refl _) _) (by simp)
/-- The first i digits of r. -/
def rpart (key : Nat → Int) (i j : Nat) : Int := if j < i then rdig key j else 0
theorem rpart_step (key : Nat → Int) (i : Nat) (v : Int) (h : v = rdig key i) : upd (rpart key i) i v = rpart key (i + 1) := by
  subst h
  funext j
  unfold upd rpart
  by_cases e : j = i
  · subst e; simp
  · rw [if_neg e]
    by_cases h : j < i
    · rw [if_pos h, if_pos (by omega)]
    · rw [if_neg h, if_neg (by omega)]
theorem upd_upd (s : Nat → Int) (i : Nat) (u v : Int) : upd (upd s i u) i v = upd s i v := by
  funext j
  unfold upd
  split <;> rfl
theorem digN_mod (X : Int) (i : Nat) (h : i < 16) : digN (X % 340282366920938463463374607431768211456) i = digN X i := by
  unfold digN
  have e : (340282366920938463463374607431768211456 : Int) = 256 ^ i * (256 * 256 ^ (15 - i)) := by
    rw [← pow16, ← Int.mul_assoc, Int.mul_assoc, show (256 : Int) * 256 ^ (15 - i) = 256 ^ (16 - i) from by rw [show 16 - i = (15 - i) + 1 by omega, Int.pow_succ, Int.mul_comm], ← Int.pow_add]
    congr 1
    omega
  have h1 : X % 340282366920938463463374607431768211456 = X - 340282366920938463463374607431768211456 * (X / 340282366920938463463374607431768211456) := by omega
  generalize X / 340282366920938463463374607431768211456 = Y at h1
  rw [h1, e, Int.mul_assoc, show X - 256 ^ i * (256 * 256 ^ (15 - i) * Y) = X + 256 ^ i * (-(256 * 256 ^ (15 - i) * Y)) by rw [Int.mul_neg]; omega, Int.add_mul_ediv_left _ _ (Int.ne_of_gt (p256 i)), Int.mul_assoc]
  omega
/-- A product digit by digit. -/
theorem prod_step (z h r : Nat → Int) (R : Int) (i k : Nat) (hik : i + k < 40) (hz : dval z 40 = dval h i * R + 256 ^ i * (h i * dval r k)) : dval (upd z (i + k) (z (i + k) + h i * r k)) 40 = dval h i * R + 256 ^ i * (h i * dval r (k + 1)) := by
  rw [dval_add hik, hz]
  show dval h i * R + 256 ^ i * (h i * dval r k) + 256 ^ (i + k) * (h i * r k) = dval h i * R + 256 ^ i * (h i * (dval r k + 256 ^ k * r k))
  rw [Int.mul_add, Int.mul_add, Int.pow_add, Int.mul_assoc, ← Int.mul_assoc (256 ^ k), Int.mul_comm (256 ^ k) (h i), Int.mul_assoc]
  omega
theorem prod_row (h r : Nat → Int) (i : Nat) : dval h i * dval r 16 + 256 ^ i * (h i * dval r 16) = dval h (i + 1) * dval r 16 := by
  show _ = (dval h i + 256 ^ i * h i) * dval r 16
  rw [Int.add_mul, Int.mul_assoc]
theorem conv_b {n : Int} (h : 0 ≤ n ∧ n < 256) (w : World) : (convert 5 3 (.int .u8 n)).run Try.prog w = .ok (.int .i64 n) w := by
  simp [go_sem, i64_wrap (n := n) (by omega) (by omega)]
theorem isArr32 : IsArr 22 32 := ⟨_, _, Try.underlying22, by kernel_rfl⟩
theorem isArr16 : IsArr 23 16 := ⟨_, _, Try.underlying23, by kernel_rfl⟩
end Go.Proofs.Ytfbeclleeehaaaa
