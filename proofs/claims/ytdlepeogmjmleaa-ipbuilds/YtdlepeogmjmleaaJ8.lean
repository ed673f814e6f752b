/-
  Own text. The program's reader: an extension header, and where a packet is cut.
-/
import Derived.Test.YtdlepeogmjmleaaJ7
import Derived.Scope
namespace Go.Proofs.Ytdlepeogmjmleaa
open Go.RowKit Go.Proofs
set_option maxRecDepth 100000
theorem touch_tr {T : Nat → Prop} {u v w : World} (h : Touch T u v) (k : Touch T v w) : Touch T u w := h.tr k
theorem tou_only {g : Nat} {w w' : World} (h : Only g w w') : Touch (fun k => k = g) w w' := touch_only h
theorem tou_bel {T : Nat → Prop} {w w' : World} (h : Below w.heap.size w w') : Touch T w w' := (touch_below h).mono (fun _ _ e => e.elim)
theorem RdAt.on {w w' : World} {g : Nat} {s : ByteArray} (h : RdAt w g s) (hb : Below w.heap.size w w') : RdAt w' g s := h.kept hb (heap_lt h)
theorem touch_new {T : Nat → Prop} {u v w : World} {g1 : Nat} (h : Touch T u v) (k : Only g1 v w) (hn : u.heap.size ≤ g1) : Touch T u w :=
  ⟨k.os.trans h.os, k.tape.trans h.tape, k.output.trans h.output, by rw [k.size]; exact h.size, fun j hj hn2 => (k.block j (by omega)).trans (h.block j hj hn2)⟩
theorem exec_bdE {a : Act} {o : Oper} {w : World} {x y : Operand} (ho : o.op = .build 36 #[(0, x), (1, y)]) {k : Int} {s : ByteArray} (hx : a.eval x = .int .i64 k) (hy : a.eval y = .string s) : (execOp a.eval o).run Try.prog w = .ok (.value (.agg (SC 2 (exV ⟨k, s⟩)))) w := by
  have h : (Instr.build 36 #[(0, .int .i64 k), (1, .string s)]).run Try.prog w = .ok (.agg (SC 2 (exV ⟨k, s⟩))) w := by kernel_rfl
  unfold execOp
  simp only [ho, List.map_toArray, List.map_cons, List.map_nil, hx, hy, Sem.run_bind, h, Result.andThen_ok, Sem.run_pure]
theorem ext_short (g : Nat) (s : ByteArray) (k : Int) (w : World) (hg : RdAt w g s) (h : s.size < 8) : Calls Try.prog 80 #[.pointer (some ⟨g, 0, none⟩), .int .i64 k] w fun e w' => e = gup 72 ∧ Touch (fun k => k = g) w w' := by
  go_enter Try.func80, Try.ntmps80
  go_wp2_with (refine wl_alO rfl rfl zeroEx ?_; intro g1 u2 hg1 q1 hB2; refine Hid.out ?_)
  refine Hid.mk ?_
  have r2 := hg.on hB2
  go_wp2_with fail
  refine (take_no g s 8 72 _ r2 h).mono ?_
  rintro e u3 ⟨rfl, rfl⟩
  exact ⟨rfl, rfl, tou_bel hB2⟩
set_option maxHeartbeats 2000000 in
theorem ext_long (g : Nat) (s : ByteArray) (k : Int) (w : World) (hg : RdAt w g s) (hsm : s.size < 9223372036854775808) (h8 : 8 ≤ s.size) (h : s.size < ((txt s 1).toNat + 1) * 8) : Calls Try.prog 80 #[.pointer (some ⟨g, 0, none⟩), .int .i64 k] w fun e w' => e = gup 72 ∧ Touch (fun k => k = g) w w' := by
  have hz : (s.extract 0 8).size = 8 := by rw [cutP_size s 0 8 h8]
  have hz2 : (s.extract 8 s.size).size = s.size - 8 := cutP_size s 8 _ (Nat.le_refl _)
  have hb := txt_b s 1
  have hN : ∀ ww, Calls Try.prog 72 #[.string (s.extract 0 8), .int .i64 1, .int .i64 1] ww fun e w' => e = .returned (.int .i64 ((txt s 1).toNat : Int)) ∧ w' = ww := fun ww => by
    have := number_run (s.extract 0 8) 1 1 ww (by omega) (by decide) (by decide) (by omega)
    rw [getN_cut s h8 (by decide), getN_one] at this
    exact this
  have HN := Hid.mk hN
  obtain ⟨m, hm1⟩ : ∃ m : Nat, (txt s 1).toNat = m := ⟨_, rfl⟩
  rw [hm1] at HN h
  have HT : Hid (∀ ww, RdAt ww g (s.extract 8 s.size) → Calls Try.prog 73 #[.pointer (some ⟨g, 0, none⟩), .int .i64 ((m * 8 : Nat) : Int), .int .i64 72] ww fun e w' => e = gup 72 ∧ w' = ww) := Hid.mk (fun ww r => take_no g _ _ 72 ww r (by omega))
  have hm : m * 8 < 9223372036854775808 := by omega
  have HTL := Hid.mk (fun ww r => take_ok g s 8 72 ww r h8)
  generalize s.extract 0 8 = L at *
  generalize s.extract 8 s.size = S8 at *
  clear hN hm1 h h8 hz hz2 hb
  go_enter Try.func80, Try.ntmps80
  go_wp2_with (refine wl_alO rfl rfl zeroEx ?_; intro g1 u2 hg1 q1 hB2; refine Hid.out ?_)
  refine Hid.mk ?_
  have r2 := hg.on hB2
  go_wp2_with (go_at_call 73; refine (HTL.out _ r2).mono ?_; rintro e u3 ⟨rfl, r3, o3⟩; refine Hid.out ?_)
  refine Hid.mk ?_
  go_wp2_with (first | (go_at_call 72; refine (HN.out _).mono ?_; rintro e u4 ⟨rfl, rfl⟩) | (refine wl_value rfl (exec_mulW (i := m) (m := 8) rfl (by rfl) (by rfl) rfl (by omega)) ?_))
  refine (HT.out _ r3).mono ?_
  rintro e u5 ⟨rfl, rfl⟩
  exact ⟨rfl, rfl, (tou_bel hB2).tr (tou_only o3)⟩
set_option maxHeartbeats 4000000 in
theorem ext_ok (g : Nat) (s : ByteArray) (k : Int) (w : World) (hg : RdAt w g s) (hsm : s.size < 4611686018427387904) (h8 : 8 ≤ s.size) (h : ((txt s 1).toNat + 1) * 8 ≤ s.size) : Calls Try.prog 80 #[.pointer (some ⟨g, 0, none⟩), .int .i64 k] w fun e w' =>
    e = .returned (.tuple #[.agg (SC 2 (exV ⟨k, s.extract 2 (((txt s 1).toNat + 1) * 8)⟩)), .int .i64 (txt s 0)]) ∧ RdAt w' g (s.extract (((txt s 1).toNat + 1) * 8) s.size) ∧ Touch (fun k => k = g) w w' := by
  have hz : (s.extract 0 8).size = 8 := by rw [cutP_size s 0 8 h8]
  have hz2 : (s.extract 8 s.size).size = s.size - 8 := cutP_size s 8 _ (Nat.le_refl _)
  have hb := txt_b s 1
  have hb0 := txt_b s 0
  have HN : Hid (∀ ww, Calls Try.prog 72 #[.string (s.extract 0 8), .int .i64 1, .int .i64 1] ww fun e w' => e = .returned (.int .i64 ((txt s 1).toNat : Int)) ∧ w' = ww) := Hid.mk (fun ww => by
    have := number_run (s.extract 0 8) 1 1 ww (by omega) (by decide) (by decide) (by omega)
    rw [getN_cut s h8 (by decide), getN_one] at this
    exact this)
  have HN0 : Hid (∀ ww, Calls Try.prog 72 #[.string (s.extract 0 8), .int .i64 0, .int .i64 1] ww fun e w' => e = .returned (.int .i64 (((txt s 0).toNat : Nat) : Int)) ∧ Below ww.heap.size ww w') := Hid.mk (fun ww => by
    have := number_run (s.extract 0 8) 0 1 ww (by omega) (by decide) (by decide) (by omega)
    rw [getN_cut s h8 (by decide), getN_one] at this
    exact this.mono (fun e w2 hh => ⟨hh.1, by rw [hh.2]; exact Below.refl _ _⟩))
  obtain ⟨t1, ht1⟩ : ∃ t1 : Nat, (txt s 1).toNat = t1 := ⟨_, rfl⟩
  rw [ht1] at HN h ⊢
  have HT : Hid (∀ ww, RdAt ww g (s.extract 8 s.size) → Calls Try.prog 73 #[.pointer (some ⟨g, 0, none⟩), .int .i64 ((t1 * 8 : Nat) : Int), .int .i64 72] ww fun e w' => e = .returned (.string (s.extract 8 ((t1 + 1) * 8))) ∧ RdAt w' g (s.extract ((t1 + 1) * 8) s.size) ∧ Only g ww w') := Hid.mk (fun ww r => by
    have := take_ok g _ (t1 * 8) 72 ww r (by omega)
    rw [hz2, cutP_cut s (Nat.le_refl _) (by omega), cutP_cut s (Nat.le_refl _) (by omega), show 8 + t1 * 8 = (t1 + 1) * 8 by omega, show 8 + (s.size - 8) = s.size by omega, Nat.add_zero] at this
    exact this)
  have HS2 : Hid (∀ ww, (Instr.sliceAt 9 (.string (s.extract 0 8)) (some (.int .i64 2)) none none).run Try.prog ww = .ok (.string (s.extract 2 8)) ww) := Hid.mk (fun ww => by
    have := strL (s.extract 0 8) 2 ww (by omega)
    rw [hz, cutP_cut s h8 (by decide)] at this
    exact this)
  have HJ : Hid (s.extract 2 8 ++ s.extract 8 ((t1 + 1) * 8) = s.extract 2 ((t1 + 1) * 8)) := Hid.mk (cutP_join s (by decide) (by omega) h)
  have HCA : Hid ((s.extract 2 8).size + (s.extract 8 ((t1 + 1) * 8)).size ≤ 9223372036854775807) := Hid.mk (by rw [cutP_size s _ _ h8, cutP_size s _ _ h]; omega)
  have hm : t1 * 8 < 9223372036854775808 := by omega
  have HK0 : Hid ((((txt s 0).toNat : Nat) : Int) = txt s 0) := Hid.mk (by omega)
  generalize txt s 0 = k0 at *
  generalize k0.toNat = K0 at *
  obtain ⟨L, hL⟩ : ∃ L, s.extract 0 8 = L := ⟨_, rfl⟩
  rw [hL] at HN HN0 HS2
  have HTL : Hid (∀ ww, RdAt ww g s → Calls Try.prog 73 #[.pointer (some ⟨g, 0, none⟩), .int .i64 8, .int .i64 72] ww fun e w' => e = .returned (.string L) ∧ RdAt w' g (s.extract 8 s.size) ∧ Only g ww w') := Hid.mk (fun ww r => by
    have := take_ok g s 8 72 ww r h8
    rw [hL] at this
    exact this)
  generalize s.extract 8 s.size = S8 at *
  generalize s.extract ((t1 + 1) * 8) s.size = SR at *
  generalize s.extract 2 8 = B2 at *
  generalize s.extract 8 ((t1 + 1) * 8) = R at *
  generalize s.extract 2 ((t1 + 1) * 8) = BD at *
  clear hb hb0 h h8 hz hz2 hL ht1
  have hlg := heap_lt hg
  go_enter Try.func80, Try.ntmps80
  go_wp2_with (refine wl_alO rfl rfl zeroEx ?_; intro g1 u2 hg1 q1 hB2; refine Hid.out ?_)
  refine Hid.mk ?_
  have r2 := hg.on hB2
  go_wp2_with (go_at_call 73; refine (HTL.out _ r2).mono ?_; rintro e u3 ⟨rfl, r3, o3⟩; refine Hid.out ?_)
  refine Hid.mk ?_
  go_wp2_with (first | (go_at_call 72; refine (HN.out _).mono ?_; rintro e u4 ⟨rfl, rfl⟩) | (refine wl_value rfl (exec_mulW (i := t1) (m := 8) rfl (by rfl) (by rfl) rfl (by omega)) ?_) | (go_at_call 73; refine (HT.out _ r3).mono ?_; rintro e u5 ⟨rfl, r5, o5⟩; refine Hid.out ?_))
  refine Hid.mk ?_
  have q5 := (o5.block g1 (by omega)).trans ((o3.block g1 (by omega)).trans q1)
  have ht5 : Touch (fun k => k = g) w u5 := ((tou_bel hB2).tr (tou_only o3)).tr (tou_only o5)
  go_upto_region 3 with fail
  refine wp_region_cut 8 rfl (by kernel_rfl) (any_steps (Below u5.heap.size u5) (fun v v' => Below v.heap.size v v') (fun j vv _ => vv = ([.int .i64 k, .string L, .string B2, .string R, .string (B2 ++ R), .agg (SC 2 (exV ⟨k, B2 ++ R⟩)), .string L, .int .i64 ((K0 : Nat) : Int)] : List Value).getD j undef)
      [15, 16, 17, 18, 19, 20, 21, 22]
      [(1, .int .i64 k), (6, .string L), (7, .string R)]
      [[], [], [1], [], [2, 3], [0, 4], [], [6]]
      (by kernel_rfl) ⟨rfl, rfl, rfl, trivial⟩ (Below.drew (Below.refl _ _)) (fun v v' h hb => h.trans (hb.mono h.size)) (fun _ _ _ _ h _ => h)
      ⟨
      (fun QQ aa ww hS fr kn => ⟨trivial, fun K hK => wp_value (exec_move rfl fr.1) (hK _ _ rfl (Below.refl _ _))⟩),
      (fun QQ aa ww hS fr kn => ⟨trivial, fun K hK => wp_value (exec_move rfl fr.2.1) (hK _ _ rfl (Below.refl _ _))⟩),
      (fun QQ aa ww hS fr kn => ⟨trivial, fun K hK => wp_value (exec_slL (u := .int .i64 2) rfl kn.1 rfl (HS2.out ww)) (hK _ _ rfl (Below.refl _ _))⟩),
      (fun QQ aa ww hS fr kn => ⟨trivial, fun K hK => wp_value (exec_move rfl fr.2.2.1) (hK _ _ rfl (Below.refl _ _))⟩),
      (fun QQ aa ww hS fr kn => ⟨trivial, fun K hK => wp_value (exec_catS (s := B2) (t := R) rfl kn.1 kn.2.1 HCA.out) (hK _ _ rfl (Below.refl _ _))⟩),
      (fun QQ aa ww hS fr kn => ⟨trivial, fun K hK => wp_value (exec_bdE rfl kn.1 kn.2.1) (hK _ _ rfl (Below.refl _ _))⟩),
      (fun QQ aa ww hS fr kn => ⟨trivial, fun K hK => wp_value (exec_move rfl fr.2.1) (hK _ _ rfl (Below.refl _ _))⟩),
      (fun QQ aa ww hS fr kn => ⟨trivial, fun K hK => stepc en_number rfl (args3 kn.1 rfl rfl) (HN0.out ww) (fun w' hb => hK _ _ rfl hb)⟩),
      trivial⟩ ?_)
  intro vs u6 hB6 kn
  have e20 : vs 20 = .agg (SC 2 (exV ⟨k, B2 ++ R⟩)) := kn 5 (by decide)
  have e22 : vs 22 = .int .i64 ((K0 : Nat) : Int) := kn 7 (by decide)
  clear kn
  show wpList Try.prog _ _ (_ :: _ :: []) _ _
  simp only [putAll, Act.put, List.setIfInBounds_toArray, List.set_cons_zero, List.set_cons_succ, e20, e22]
  clear e20 e22
  have r6 := r5.on hB6
  have q6 := SAt.kept q5 hB6
  have l6 := heap_lt q6
  go_wp2_with (first | (refine st_stO rfl rfl isEx2 (exV_one _) q6 (by rfl) (by rfl) ?_; intro u7 q7 o7; refine Hid.out ?_))
  refine Hid.mk ?_
  have r7 : RdAt u7 g SR := (o7.block g (by omega)).trans r6
  go_wp2_with fail
  have ht7 := touch_new (ht5.bel hB6 ht5.size) o7 hg1
  exact bodyPost_ret (res_ct rfl isEx2 q7 (by rfl) (by rfl)) rfl ⟨by rw [← HJ.out, ← HK0.out]; rfl, r7, ht7⟩
theorem and_bit (B k : Nat) : B &&& 2 ^ k = B / 2 ^ k % 2 * 2 ^ k := by
  have hb : B.testBit k = decide (B / 2 ^ k % 2 = 1) := Nat.testBit_eq_decide_div_mod_eq
  apply Nat.eq_of_testBit_eq
  intro i
  rw [Nat.testBit_and, Nat.testBit_two_pow]
  rcases Nat.mod_two_eq_zero_or_one (B / 2 ^ k) with h | h
  · rw [h, Nat.zero_mul, Nat.zero_testBit]
    rw [h] at hb
    by_cases e : k = i
    · subst e; rw [hb]; rfl
    · simp [e]
  · rw [h, Nat.one_mul, Nat.testBit_two_pow]
    rw [h] at hb
    by_cases e : k = i
    · subst e; rw [hb]; simp
    · simp [e]
theorem and_low (B k : Nat) : B &&& (2 ^ k - 1) = B % 2 ^ k := Nat.and_two_pow_sub_one_eq_mod B k
theorem and_6 (B : Nat) : B &&& 6 = B % 8 / 2 * 2 := by
  have h1 : B &&& 6 = (B &&& 7) &&& 6 := by rw [Nat.and_assoc]; rfl
  have h2 : B &&& 7 = B % 8 := Nat.and_two_pow_sub_one_eq_mod B 3
  have h3 : ∀ m, m < 8 → m &&& 6 = m / 2 * 2 := by decide
  rw [h1, h2, h3 _ (by omega)]
theorem and_8 {B : Nat} (h : B < 65536) : B &&& 65528 = B / 8 * 8 := by
  have e : B = 2 ^ 3 * (B / 8) ||| B % 8 := by
    rw [← Nat.two_pow_add_eq_or_of_lt (by have : (2 : Nat)^3 = 8 := rfl; omega)]
    have : (2 : Nat)^3 = 8 := rfl
    omega
  have h3 : ∀ m, m < 8 → m &&& 65528 = 0 := by decide
  have h4 : 2 ^ 3 * (B / 8) &&& 65528 = B / 8 * 8 := by
    have e1 : 2 ^ 3 * (B / 8) = (B / 8) <<< 3 := by rw [Nat.shiftLeft_eq, Nat.mul_comm]
    have e2 : (65528 : Nat) = 8191 <<< 3 := by decide
    rw [e1, e2, ← Nat.shiftLeft_and_distrib, show (8191 : Nat) = 2 ^ 13 - 1 from rfl, Nat.and_two_pow_sub_one_eq_mod, Nat.mod_eq_of_lt (by have : (2 : Nat)^13 = 8192 := rfl; omega), Nat.shiftLeft_eq]
  conv => lhs; rw [e]
  rw [Nat.and_or_distrib_right, h4, h3 _ (Nat.mod_lt _ (by decide)), Nat.or_zero]
theorem pk_up34 (P : Pk) (v : Value) (q : Int) : ∀ x, x < 46 → (if x = 34 then .int .i64 q else pkV P v x) = pkV { P with proto := q } v x := by
  intro x hx
  unfold pkV
  by_cases h1 : x < 17
  · rw [if_neg (by omega), if_pos h1, if_pos h1]
  · by_cases h2 : x < 34
    · rw [if_neg (by omega), if_neg h1, if_neg h1, if_pos h2, if_pos h2]
    · rw [if_neg h1, if_neg h2, if_neg h1, if_neg h2]
      obtain ⟨y, rfl⟩ : ∃ y, x = 34 + y := ⟨x - 34, by omega⟩
      rw [Nat.add_sub_cancel_left]
      match y, hx with
      | 0, _ => rfl
      | 1, _ => rfl
      | 2, _ => rfl
      | 3, _ => rfl
      | 4, _ => rfl
      | 5, _ => rfl
      | 6, _ => rfl
      | 7, _ => rfl
      | 8, _ => rfl
      | 9, _ => rfl
      | 10, _ => rfl
      | 11, _ => rfl
      | y + 12, h => omega
theorem pk_up37 (P : Pk) (v : Value) (q : Int) : ∀ x, x < 46 → (if x = 37 then .int .i64 q else pkV P v x) = pkV { P with id := q } v x := by
  intro x hx
  unfold pkV
  by_cases h1 : x < 17
  · rw [if_neg (by omega), if_pos h1, if_pos h1]
  · by_cases h2 : x < 34
    · rw [if_neg (by omega), if_neg h1, if_neg h1, if_pos h2, if_pos h2]
    · rw [if_neg h1, if_neg h2, if_neg h1, if_neg h2]
      obtain ⟨y, rfl⟩ : ∃ y, x = 34 + y := ⟨x - 34, by omega⟩
      rw [Nat.add_sub_cancel_left]
      match y, hx with
      | 0, _ => rfl
      | 1, _ => rfl
      | 2, _ => rfl
      | 3, _ => rfl
      | 4, _ => rfl
      | 5, _ => rfl
      | 6, _ => rfl
      | 7, _ => rfl
      | 8, _ => rfl
      | 9, _ => rfl
      | 10, _ => rfl
      | 11, _ => rfl
      | y + 12, h => omega
theorem pk_up38 (P : Pk) (v : Value) (q : Int) : ∀ x, x < 46 → (if x = 38 then .int .i64 q else pkV P v x) = pkV { P with off := q } v x := by
  intro x hx
  unfold pkV
  by_cases h1 : x < 17
  · rw [if_neg (by omega), if_pos h1, if_pos h1]
  · by_cases h2 : x < 34
    · rw [if_neg (by omega), if_neg h1, if_neg h1, if_pos h2, if_pos h2]
    · rw [if_neg h1, if_neg h2, if_neg h1, if_neg h2]
      obtain ⟨y, rfl⟩ : ∃ y, x = 34 + y := ⟨x - 34, by omega⟩
      rw [Nat.add_sub_cancel_left]
      match y, hx with
      | 0, _ => rfl
      | 1, _ => rfl
      | 2, _ => rfl
      | 3, _ => rfl
      | 4, _ => rfl
      | 5, _ => rfl
      | 6, _ => rfl
      | 7, _ => rfl
      | 8, _ => rfl
      | 9, _ => rfl
      | 10, _ => rfl
      | 11, _ => rfl
      | y + 12, h => omega
theorem pk_up39 (P : Pk) (v : Value) (q : Bool) : ∀ x, x < 46 → (if x = 39 then .bool q else pkV P v x) = pkV { P with more := q } v x := by
  intro x hx
  unfold pkV
  by_cases h1 : x < 17
  · rw [if_neg (by omega), if_pos h1, if_pos h1]
  · by_cases h2 : x < 34
    · rw [if_neg (by omega), if_neg h1, if_neg h1, if_pos h2, if_pos h2]
    · rw [if_neg h1, if_neg h2, if_neg h1, if_neg h2]
      obtain ⟨y, rfl⟩ : ∃ y, x = 34 + y := ⟨x - 34, by omega⟩
      rw [Nat.add_sub_cancel_left]
      match y, hx with
      | 0, _ => rfl
      | 1, _ => rfl
      | 2, _ => rfl
      | 3, _ => rfl
      | 4, _ => rfl
      | 5, _ => rfl
      | 6, _ => rfl
      | 7, _ => rfl
      | 8, _ => rfl
      | 9, _ => rfl
      | 10, _ => rfl
      | 11, _ => rfl
      | y + 12, h => omega
theorem pk_up43 (P : Pk) (v : Value) (q : Value) : ∀ x, x < 46 → (if x = 43 then q else pkV P v x) = pkV P q x := by
  intro x hx
  unfold pkV
  by_cases h1 : x < 17
  · rw [if_neg (by omega), if_pos h1, if_pos h1]
  · by_cases h2 : x < 34
    · rw [if_neg (by omega), if_neg h1, if_neg h1, if_pos h2, if_pos h2]
    · rw [if_neg h1, if_neg h2, if_neg h1, if_neg h2]
      obtain ⟨y, rfl⟩ : ∃ y, x = 34 + y := ⟨x - 34, by omega⟩
      rw [Nat.add_sub_cancel_left]
      match y, hx with
      | 0, _ => rfl
      | 1, _ => rfl
      | 2, _ => rfl
      | 3, _ => rfl
      | 4, _ => rfl
      | 5, _ => rfl
      | 6, _ => rfl
      | 7, _ => rfl
      | 8, _ => rfl
      | 9, _ => rfl
      | 10, _ => rfl
      | 11, _ => rfl
      | y + 12, h => omega
theorem pk_up44 (P : Pk) (v : Value) (q : Bool) : ∀ x, x < 46 → (if x = 44 then .bool q else pkV P v x) = pkV { P with cut := q } v x := by
  intro x hx
  unfold pkV
  by_cases h1 : x < 17
  · rw [if_neg (by omega), if_pos h1, if_pos h1]
  · by_cases h2 : x < 34
    · rw [if_neg (by omega), if_neg h1, if_neg h1, if_pos h2, if_pos h2]
    · rw [if_neg h1, if_neg h2, if_neg h1, if_neg h2]
      obtain ⟨y, rfl⟩ : ∃ y, x = 34 + y := ⟨x - 34, by omega⟩
      rw [Nat.add_sub_cancel_left]
      match y, hx with
      | 0, _ => rfl
      | 1, _ => rfl
      | 2, _ => rfl
      | 3, _ => rfl
      | 4, _ => rfl
      | 5, _ => rfl
      | 6, _ => rfl
      | 7, _ => rfl
      | 8, _ => rfl
      | 9, _ => rfl
      | 10, _ => rfl
      | 11, _ => rfl
      | y + 12, h => omega
theorem pk_up45 (P : Pk) (v : Value) (q : ByteArray) : ∀ x, x < 46 → (if x = 45 then .string q else pkV P v x) = pkV { P with pay := q } v x := by
  intro x hx
  unfold pkV
  by_cases h1 : x < 17
  · rw [if_neg (by omega), if_pos h1, if_pos h1]
  · by_cases h2 : x < 34
    · rw [if_neg (by omega), if_neg h1, if_neg h1, if_pos h2, if_pos h2]
    · rw [if_neg h1, if_neg h2, if_neg h1, if_neg h2]
      obtain ⟨y, rfl⟩ : ∃ y, x = 34 + y := ⟨x - 34, by omega⟩
      rw [Nat.add_sub_cancel_left]
      match y, hx with
      | 0, _ => rfl
      | 1, _ => rfl
      | 2, _ => rfl
      | 3, _ => rfl
      | 4, _ => rfl
      | 5, _ => rfl
      | 6, _ => rfl
      | 7, _ => rfl
      | 8, _ => rfl
      | 9, _ => rfl
      | 10, _ => rfl
      | 11, _ => rfl
      | y + 12, h => omega
theorem exec_fpkL {a : Act} {o : Oper} {w : World} {x : Operand} (k f : Nat) (hk : k < 14) (hf : pkO k = f) (ho : o.op = .fieldAddr 27 x k) {g : Nat} (hx : a.eval x = .pointer (some ⟨g, 0, none⟩)) : (execOp a.eval o).run Try.prog w = .ok (.value (.pointer (some ⟨g, f, none⟩))) w := by
  rw [← hf]
  exact exec_fpk k hk ho hx
theorem wl_stP {ops : Array Oper} {rest : List Oper} {o : Oper} {a : Act} {w : World} {x y : Operand} {Q : Exit → Act → World → Prop} {t : TypeId} {g f : Nat} {V V' : Nat → Value} {z : Value} (ho : o.op = .store t x y) (hw : Region.wanted o (yielded ops a.tmps) = true) (hx : a.eval x = .pointer (some ⟨g, f, none⟩)) (hy : a.eval y = z) (hf : f < 46)
    (hr : ∀ w : World, w.cell? ⟨g, f, none⟩ = some (V f) → w.frozen? ⟨g, f, none⟩ = false → (Instr.storeAt t (.pointer (some ⟨g, f, none⟩)) z).run Try.prog w = .ok () (w.setCell ⟨g, f, none⟩ z)) (hg : SAt w g 27 46 V) (hV : ∀ i, i < 46 → (if i = f then z else V i) = V' i)
    (h : ∀ w', SAt w' g 27 46 V' → Only g w w' → wpList Try.prog ops Q rest (a.put o.dst undef) w') : wpList Try.prog ops Q (o :: rest) a w := by
  refine wl_act hw ?_
  have hr' := hr w (hg.at f hf) (frozen_of_row w _ f _ _ hg)
  unfold Oper.wp execOp
  simp only [ho, hx, hy, Sem.run_bind, hr', Result.andThen_ok, Sem.run_pure, Oper.upon]
  exact h _ ((hg.set f z hf).congr hV) only_set
section
variable {g f : Nat} {c : Value}
theorem stI (n : Int) : ∀ w : World, w.cell? ⟨g, f, none⟩ = some c → w.frozen? ⟨g, f, none⟩ = false → (Instr.storeAt 3 (.pointer (some ⟨g, f, none⟩)) (.int .i64 n)).run Try.prog w = .ok () (w.setCell ⟨g, f, none⟩ (.int .i64 n)) := fun w h1 h2 => by simp [go_sem, h1, h2]
theorem stB (n : Bool) : ∀ w : World, w.cell? ⟨g, f, none⟩ = some c → w.frozen? ⟨g, f, none⟩ = false → (Instr.storeAt 4 (.pointer (some ⟨g, f, none⟩)) (.bool n)).run Try.prog w = .ok () (w.setCell ⟨g, f, none⟩ (.bool n)) := fun w h1 h2 => by simp [go_sem, h1, h2]
theorem stS (n : ByteArray) : ∀ w : World, w.cell? ⟨g, f, none⟩ = some c → w.frozen? ⟨g, f, none⟩ = false → (Instr.storeAt 9 (.pointer (some ⟨g, f, none⟩)) (.string n)).run Try.prog w = .ok () (w.setCell ⟨g, f, none⟩ (.string n)) := fun w h1 h2 => by simp [go_sem, h1, h2]
theorem stX {ad : Option Addr} {n m : Nat} : ∀ w : World, w.cell? ⟨g, f, none⟩ = some c → w.frozen? ⟨g, f, none⟩ = false → (Instr.storeAt 25 (.pointer (some ⟨g, f, none⟩)) (.slice ad n m)).run Try.prog w = .ok () (w.setCell ⟨g, f, none⟩ (.slice ad n m)) := fun w h1 h2 => by simp [go_sem, h1, h2]
end
end Go.Proofs.Ytdlepeogmjmleaa
/-
  Own text. Where a packet is cut: the program's reader.
-/
namespace Go.Proofs.Ytdlepeogmjmleaa
open Go.RowKit Go.Proofs
set_option maxRecDepth 100000
theorem exec_ixv {a : Act} {o : Oper} {w : World} {x y : Operand} (ho : o.op = .index 9 x y) {s : ByteArray} {j : Nat} {q : Int} (hx : a.eval x = .string s) (hy : a.eval y = .int .i64 (j : Int)) (hj : j < s.size) (hq : txt s j = q) : (execOp a.eval o).run Try.prog w = .ok (.value (.int .u8 q)) w := by
  rw [← hq]
  exact exec_ixs ho hx hy hj
theorem cut_short (g gp : Nat) (s : ByteArray) (P : Pk) (v : Value) (w : World) (hg : RdAt w g s) (hp : SAt w gp 27 46 (pkV P v)) (hne : gp ≠ g) (h : s.size < 8) : Calls Try.prog 81 #[.pointer (some ⟨g, 0, none⟩), .pointer (some ⟨gp, 0, none⟩)] w fun e w' => e = gup 72 ∧ Touch (fun k => k = g ∨ k = gp) w w' := by
  have _ := hp
  have _ := hne
  have HT := Hid.mk (take_no g s 8 72 w hg h)
  go_enter Try.func81, Try.ntmps81
  go_wp2_with fail
  refine HT.out.mono ?_
  rintro e u3 ⟨rfl, rfl⟩
  exact ⟨rfl, rfl, Touch.refl _ _⟩
set_option maxHeartbeats 4000000 in
theorem cut_bad (g gp : Nat) (s : ByteArray) (P : Pk) (v : Value) (w : World) (hg : RdAt w g s) (hp : SAt w gp 27 46 (pkV P v)) (hne : gp ≠ g) (h8 : 8 ≤ s.size) (h : txt s 1 ≠ 0 ∨ getN (txt s) 2 2 % 8 / 2 ≠ 0 ∨ isHd (txt s 0) = true) : Calls Try.prog 81 #[.pointer (some ⟨g, 0, none⟩), .pointer (some ⟨gp, 0, none⟩)] w fun e w' => e = gup 74 ∧ Touch (fun k => k = g ∨ k = gp) w w' := by
  have hz : (s.extract 0 8).size = 8 := by rw [cutP_size s 0 8 h8]
  have hb0 := txt_b s 0
  have hB : getN (txt s) 2 2 < 65536 := by
    have := getN_lt (fun j => txt_b s j) 2 2
    have e : (256 : Nat) ^ 2 = 65536 := rfl
    omega
  have HN0 : Hid (∀ ww, Calls Try.prog 72 #[.string (s.extract 0 8), .int .i64 0, .int .i64 1] ww fun e w' => e = .returned (.int .i64 (txt s 0)) ∧ w' = ww) := Hid.mk (fun ww => by
    have := number_run (s.extract 0 8) 0 1 ww (by omega) (by decide) (by decide) (by omega)
    rw [getN_cut s h8 (by decide), getN_one, Nat.add_zero, Int.toNat_of_nonneg hb0.1] at this
    exact this)
  have HN2 : Hid (∀ ww, Calls Try.prog 72 #[.string (s.extract 0 8), .int .i64 2, .int .i64 2] ww fun e w' => e = .returned (.int .i64 ((getN (txt s) 2 2 : Nat) : Int)) ∧ w' = ww) := Hid.mk (fun ww => by
    have := number_run (s.extract 0 8) 2 2 ww (by omega) (by decide) (by decide) (by omega)
    rw [getN_cut s h8 (by decide)] at this
    exact this)
  have HN4 : Hid (∀ ww, Calls Try.prog 72 #[.string (s.extract 0 8), .int .i64 4, .int .i64 4] ww fun e w' => e = .returned (.int .i64 ((getN (txt s) 4 4 : Nat) : Int)) ∧ w' = ww) := Hid.mk (fun ww => by
    have := number_run (s.extract 0 8) 4 4 ww (by omega) (by decide) (by decide) (by omega)
    rw [getN_cut s h8 (by decide)] at this
    exact this)
  have HX1 : Hid (txt (s.extract 0 8) 1 = txt s 1) := Hid.mk (txt_cutP s 0 8 1 (by decide) h8)
  have HZ : Hid (1 < (s.extract 0 8).size) := Hid.mk (by omega)
  have HTL : Hid (∀ ww, RdAt ww g s → Calls Try.prog 73 #[.pointer (some ⟨g, 0, none⟩), .int .i64 8, .int .i64 72] ww fun e w' => e = .returned (.string (s.extract 0 8)) ∧ RdAt w' g (s.extract 8 s.size) ∧ Only g ww w') := Hid.mk (fun ww r => take_ok g s 8 72 ww r h8)
  generalize txt s 0 = b0 at *
  generalize txt s 1 = b1 at *
  generalize getN (txt s) 2 2 = B at *
  generalize getN (txt s) 4 4 = I4 at *
  generalize s.extract 0 8 = L at *
  generalize s.extract 8 s.size = S8 at *
  clear hz hb0 h8
  by_cases c1 : b1 = 0
  · subst c1
    by_cases c2 : B % 8 / 2 = 0
    · have ha : B &&& 6 = 0 := by rw [and_6, c2]
      have h3 : isHd b0 = true := by
        rcases h with e | e | e
        · exact absurd rfl e
        · exact absurd c2 e
        · exact e
      clear h c2
      go_enter Try.func81, Try.ntmps81
      go_wp2_with (first | (go_at_call 73; refine (HTL.out _ hg).mono ?_; rintro e u3 ⟨rfl, r3, o3⟩; refine Hid.out ?_))
      refine Hid.mk ?_
      have p3 := hp.only o3 hne
      have t3 : Touch (fun k => k = g ∨ k = gp) w u3 := (tou_only o3).mono (fun _ _ e => .inl e)
      go_wp2_with (go_at_call 72; refine (HN0.out _).mono ?_; rintro e u4 ⟨rfl, rfl⟩; refine Hid.out ?_)
      refine Hid.mk ?_
      go_wp2_with (go_at_call 72; refine (HN2.out _).mono ?_; rintro e u4 ⟨rfl, rfl⟩; refine Hid.out ?_)
      refine Hid.mk ?_

      go_wp2_with (first | (refine wl_value rfl (exec_ixv (j := 1) rfl (by rfl) (by rfl) HZ.out HX1.out) ?_) | (refine wl_value rfl (exec_andI (i := B) (m := 6) (q := 0) rfl (by rfl) (by rfl) ha (by omega) (by decide)) ?_) | (go_at_call 60; refine (isHeader_run b0 _).mono ?_; rintro e u5 ⟨rfl, hB5⟩; refine Hid.out ?_))
      refine Hid.mk ?_
      go_wp2_with fail
      refine (need_no 74 _).mono ?_
      rintro e u6 ⟨rfl, rfl⟩
      exact ⟨rfl, rfl, t3.bel hB5 t3.size⟩
    · obtain ⟨q, hq⟩ : ∃ q, B &&& 6 = q + 1 := ⟨(B &&& 6) - 1, by rw [and_6]; omega⟩
      clear h c2
      go_enter Try.func81, Try.ntmps81
      go_wp2_with (first | (go_at_call 73; refine (HTL.out _ hg).mono ?_; rintro e u3 ⟨rfl, r3, o3⟩; refine Hid.out ?_))
      refine Hid.mk ?_
      have p3 := hp.only o3 hne
      have t3 : Touch (fun k => k = g ∨ k = gp) w u3 := (tou_only o3).mono (fun _ _ e => .inl e)
      go_wp2_with (go_at_call 72; refine (HN0.out _).mono ?_; rintro e u4 ⟨rfl, rfl⟩; refine Hid.out ?_)
      refine Hid.mk ?_
      go_wp2_with (go_at_call 72; refine (HN2.out _).mono ?_; rintro e u4 ⟨rfl, rfl⟩; refine Hid.out ?_)
      refine Hid.mk ?_

      have hq0 : (((q + 1 : Nat) : Int) == 0) = false := beq_false_of_ne (by omega)
      go_wp2_with (first | (refine wl_value rfl (exec_ixv (j := 1) rfl (by rfl) (by rfl) HZ.out HX1.out) ?_) | (refine wl_value rfl (exec_andI (i := B) (m := 6) (q := q + 1) rfl (by rfl) (by rfl) hq (by omega) (by decide)) ?_))
      refine (need_no 74 _).mono ?_
      rintro e u6 ⟨rfl, rfl⟩
      exact ⟨rfl, rfl, t3⟩
  · clear h
    go_enter Try.func81, Try.ntmps81
    go_wp2_with (first | (go_at_call 73; refine (HTL.out _ hg).mono ?_; rintro e u3 ⟨rfl, r3, o3⟩; refine Hid.out ?_))
    refine Hid.mk ?_
    have p3 := hp.only o3 hne
    have t3 : Touch (fun k => k = g ∨ k = gp) w u3 := (tou_only o3).mono (fun _ _ e => .inl e)
    go_wp2_with (go_at_call 72; refine (HN0.out _).mono ?_; rintro e u4 ⟨rfl, rfl⟩; refine Hid.out ?_)
    refine Hid.mk ?_
    go_wp2_with (go_at_call 72; refine (HN2.out _).mono ?_; rintro e u4 ⟨rfl, rfl⟩; refine Hid.out ?_)
    refine Hid.mk ?_

    have hq0 : (b1 == 0) = false := beq_false_of_ne c1
    go_wp2_with (first | (refine wl_value rfl (exec_ixv (j := 1) rfl (by rfl) (by rfl) HZ.out HX1.out) ?_))
    refine (need_no 74 _).mono ?_
    rintro e u6 ⟨rfl, rfl⟩
    exact ⟨rfl, rfl, t3⟩
set_option maxHeartbeats 4000000 in
theorem cut_ok (g gp : Nat) (s : ByteArray) (P : Pk) (v : Value) (w : World) (hg : RdAt w g s) (hp : SAt w gp 27 46 (pkV P v)) (hne : gp ≠ g) (h8 : 8 ≤ s.size) (h1 : txt s 1 = 0) (h2 : getN (txt s) 2 2 % 8 / 2 = 0) (h3 : isHd (txt s 0) = false) : Calls Try.prog 81 #[.pointer (some ⟨g, 0, none⟩), .pointer (some ⟨gp, 0, none⟩)] w fun e w' => e = .returned (.int .i64 (txt s 0)) ∧ RdAt w' g (s.extract 8 s.size) ∧ SAt w' gp 27 46 (pkV { P with cut := true, off := ((getN (txt s) 2 2 / 8 * 8 : Nat) : Int), more := decide (getN (txt s) 2 2 % 2 = 1), id := (getN (txt s) 4 4 : Int) } v) ∧ Touch (fun k => k = g ∨ k = gp) w w' := by
  have hz : (s.extract 0 8).size = 8 := by rw [cutP_size s 0 8 h8]
  have hb0 := txt_b s 0
  have hB : getN (txt s) 2 2 < 65536 := by
    have := getN_lt (fun j => txt_b s j) 2 2
    have e : (256 : Nat) ^ 2 = 65536 := rfl
    omega
  have HN0 : Hid (∀ ww, Calls Try.prog 72 #[.string (s.extract 0 8), .int .i64 0, .int .i64 1] ww fun e w' => e = .returned (.int .i64 (txt s 0)) ∧ w' = ww) := Hid.mk (fun ww => by
    have := number_run (s.extract 0 8) 0 1 ww (by omega) (by decide) (by decide) (by omega)
    rw [getN_cut s h8 (by decide), getN_one, Nat.add_zero, Int.toNat_of_nonneg hb0.1] at this
    exact this)
  have HN2 : Hid (∀ ww, Calls Try.prog 72 #[.string (s.extract 0 8), .int .i64 2, .int .i64 2] ww fun e w' => e = .returned (.int .i64 ((getN (txt s) 2 2 : Nat) : Int)) ∧ w' = ww) := Hid.mk (fun ww => by
    have := number_run (s.extract 0 8) 2 2 ww (by omega) (by decide) (by decide) (by omega)
    rw [getN_cut s h8 (by decide)] at this
    exact this)
  have HN4 : Hid (∀ ww, Calls Try.prog 72 #[.string (s.extract 0 8), .int .i64 4, .int .i64 4] ww fun e w' => e = .returned (.int .i64 ((getN (txt s) 4 4 : Nat) : Int)) ∧ w' = ww) := Hid.mk (fun ww => by
    have := number_run (s.extract 0 8) 4 4 ww (by omega) (by decide) (by decide) (by omega)
    rw [getN_cut s h8 (by decide)] at this
    exact this)
  have HX1 : Hid (txt (s.extract 0 8) 1 = txt s 1) := Hid.mk (txt_cutP s 0 8 1 (by decide) h8)
  have HZ : Hid (1 < (s.extract 0 8).size) := Hid.mk (by omega)
  have HTL : Hid (∀ ww, RdAt ww g s → Calls Try.prog 73 #[.pointer (some ⟨g, 0, none⟩), .int .i64 8, .int .i64 72] ww fun e w' => e = .returned (.string (s.extract 0 8)) ∧ RdAt w' g (s.extract 8 s.size) ∧ Only g ww w') := Hid.mk (fun ww r => take_ok g s 8 72 ww r h8)
  generalize txt s 0 = b0 at *
  generalize txt s 1 = b1 at *
  generalize getN (txt s) 2 2 = B at *
  generalize getN (txt s) 4 4 = I4 at *
  generalize s.extract 0 8 = L at *
  generalize s.extract 8 s.size = S8 at *
  clear hz hb0 h8
  subst h1
  have ha : B &&& 6 = 0 := by rw [and_6, h2]
  have ha8 : B &&& 65528 = B / 8 * 8 := and_8 hB
  have ha1 : B &&& 1 = B % 2 := by have := and_low B 1; exact this
  clear h2
  go_enter Try.func81, Try.ntmps81
  go_wp2_with (first | (go_at_call 73; refine (HTL.out _ hg).mono ?_; rintro e u3 ⟨rfl, r3, o3⟩; refine Hid.out ?_))
  refine Hid.mk ?_
  have p3 := hp.only o3 hne
  have t3 : Touch (fun k => k = g ∨ k = gp) w u3 := (tou_only o3).mono (fun _ _ e => .inl e)
  go_wp2_with (go_at_call 72; refine (HN0.out _).mono ?_; rintro e u4 ⟨rfl, rfl⟩; refine Hid.out ?_)
  refine Hid.mk ?_
  go_wp2_with (go_at_call 72; refine (HN2.out _).mono ?_; rintro e u4 ⟨rfl, rfl⟩; refine Hid.out ?_)
  refine Hid.mk ?_
  go_wp2_with (first | (refine wl_value rfl (exec_ixv (j := 1) rfl (by rfl) (by rfl) HZ.out HX1.out) ?_) | (refine wl_value rfl (exec_andI (i := B) (m := 6) (q := 0) rfl (by rfl) (by rfl) ha (by omega) (by decide)) ?_) | (go_at_call 60; refine (isHeader_run b0 _).mono ?_; rintro e u5 ⟨rfl, hB5⟩; refine Hid.out ?_))
  refine Hid.mk ?_
  have r5 := r3.on hB5
  have p5 := p3.kept hB5
  have t5 := t3.bel hB5 t3.size
  go_wp2_with (go_at_call 63; refine (need_ok 74 _).mono ?_; rintro e u6 ⟨rfl, rfl⟩; refine Hid.out ?_)
  refine Hid.mk ?_
  go_upto_region 4 with fail
  go_wp2_with (first | (go_at_call 72; refine (HN4.out _).mono ?_; rintro e u4 ⟨rfl, rfl⟩) | (refine wl_value rfl (exec_fpkL 12 44 (by decide) rfl rfl (by rfl)) ?_) | (refine wl_stP rfl rfl (by rfl) (by rfl) (by decide) (stB true) p5 (pk_up44 P v true) ?_; intro u7 p7 o7; refine Hid.out ?_))
  refine Hid.mk ?_
  go_wp2_with (first | (refine wl_value rfl (exec_fpkL 5 37 (by decide) rfl rfl (by rfl)) ?_) | (refine wl_stP rfl rfl (by rfl) (by rfl) (by decide) (stI (I4 : Int)) p7 (pk_up37 _ v (I4 : Int)) ?_; intro u8 p8 o8; refine Hid.out ?_))
  refine Hid.mk ?_
  go_upto_region 5 with fail
  go_wp2_with (first | (refine wl_value rfl (exec_andI (i := B) (m := 65528) (q := B / 8 * 8) rfl (by rfl) (by rfl) ha8 (by omega) (by decide)) ?_) | (refine wl_value rfl (exec_andI (i := B) (m := 1) (q := B % 2) rfl (by rfl) (by rfl) ha1 (by omega) (by decide)) ?_) | (refine wl_value rfl (cmp_ne (m := ((B % 2 : Nat) : Int)) (n := 0) rfl (by rfl) (by rfl)) ?_) | (refine wl_value rfl (exec_fpkL 6 38 (by decide) rfl rfl (by rfl)) ?_) | (refine wl_stP rfl rfl (by rfl) (by rfl) (by decide) (stI ((B / 8 * 8 : Nat) : Int)) p8 (pk_up38 _ v ((B / 8 * 8 : Nat) : Int)) ?_; intro u9 p9 o9; refine Hid.out ?_))
  refine Hid.mk ?_
  go_wp2_with (first | (refine wl_value rfl (exec_fpkL 7 39 (by decide) rfl rfl (by rfl)) ?_) | (refine wl_stP rfl rfl (by rfl) (by rfl) (by decide) (stB (!decide (((B % 2 : Nat) : Int) = 0))) p9 (pk_up39 _ v (!decide (((B % 2 : Nat) : Int) = 0))) ?_; intro u10 p10 o10; refine Hid.out ?_))
  refine Hid.mk ?_
  have hmo : (!decide (((B % 2 : Nat) : Int) = 0)) = decide (B % 2 = 1) := by
    rcases Nat.mod_two_eq_zero_or_one B with e | e <;> rw [e] <;> rfl
  rw [hmo] at p10
  have onl := (((o7.trans o8).trans o9).trans o10)
  go_wp2_with fail
  go_ret
  exact ⟨rfl, (onl.block g (fun e => hne e.symm)).trans r5, p10, t5.tr ((tou_only onl).mono (fun _ _ e => .inr e))⟩
theorem en_cut (args : Array Value) (w : World) : (callFunc 81 args).run Try.prog w = .ok (.enter 81 args) w := by kernel_rfl
theorem en_ext (args : Array Value) (w : World) : (callFunc 80 args).run Try.prog w = .ok (.enter 80 args) w := by kernel_rfl
end Go.Proofs.Ytdlepeogmjmleaa
/-
  Own text. One more extension header is appended: a region that leaves its order open, in which the row of headers moves.
-/
namespace Go.Proofs.Ytdlepeogmjmleaa
open Go.RowKit Go.Proofs
set_option maxRecDepth 100000
theorem wp_of_list {P : Program} {o : Oper} {a : Act} {w : World} {K : Act → World → Prop} {Q : Exit → Act → World → Prop} (hg : o.guard = none) (h : ∀ Q' : Exit → Act → World → Prop, (∀ a w, K a w → Q' .normal a w) → wpList P #[] Q' [o] a w) : o.wp P a w K Q := by
  have h1 := h (fun x a w => x = .normal ∧ K a w) (fun a w hk => ⟨rfl, hk⟩)
  simp only [wpList, Region.wanted, hg, if_true] at h1
  rcases h1 with h1 | ⟨_, h1⟩
  · unfold Oper.wp at h1 ⊢
    generalize (execOp a.eval o).run P w = r at h1 ⊢
    cases r with
    | ok n w' =>
      cases n with
      | value v => exact h1.2
      | skip => exact h1.2
      | defer d => exact h1.2
      | enter f args =>
        refine Calls.mono h1 ?_
        intro e w2 h2
        cases e with
        | returned v => exact h2.2
        | panicked c => exact absurd h2.1 (by simp)
        | outgrown =>
          obtain ⟨_, _, h3⟩ := h2
          exact absurd h3.1 (by simp)
      | row r args => exact Rows.mono h1 (fun v w2 h2 => h2.2)
      | _ => exact h1.elim
    | halt hh w' =>
      cases hh with
      | panic v => exact absurd h1.1 (by simp)
      | _ => exact h1.elim
  · obtain ⟨_, _, h3⟩ := h1
    exact absurd h3.1 (by simp)
theorem wpOp_of {P : Program} {ops : Array Oper} {i : Nat} {o : Oper} {a : Act} {w : World} {K : Act → World → Prop} {Q : Exit → Act → World → Prop} (h : ops[i]? = some o) (hg : o.guard = none) (h2 : o.wp P a w K Q) : wpOp P ops Q i K a w := by
  unfold wpOp
  simp only [h, Region.wanted, hg, if_true]
  exact .inl h2
section
variable {g gp g7 B n : Nat} {rest : ByteArray} {P : Pk} {v : Value} {x : Ex} {Z : Nat → Nat → Value} {u w w' : World} {L : Nat → Bool}
def apS (g gp g7 B n : Nat) (rest : ByteArray) (P : Pk) (v : Value) (x : Ex) (Z : Nat → Nat → Value) (u : World) (L : Nat → Bool) (w : World) : Prop :=
  RdAt w g rest ∧ SAt w gp 27 46 (pkV P v) ∧ SAt w g7 36 2 (exV x) ∧ Touch (fun k => v.ownBlock = some k) u w ∧ (L 7 = false → w.ownsRow B 36 2 v n (rX 2 Z n))
def apF (gp B n : Nat) (v : Value) (x : Ex) (Z : Nat → Nat → Value) (u : World) (L : Nat → Bool) (i : Nat) (val : Value) (w : World) : Prop :=
  match i with
  | 0 => val = .pointer (some ⟨gp, 0, none⟩)
  | 1 => val = .pointer (some ⟨gp, 0, none⟩)
  | 2 => val = .pointer (some ⟨gp, 0, none⟩)
  | 3 => val = .pointer (some ⟨gp, 43, none⟩)
  | 4 => val = v
  | 5 => val = .agg (SC 2 (exV x))
  | 6 => ∃ b, val = .slice (some ⟨b, 0, none⟩) 1 1 ∧ (L 7 = false → SAt w b 36 2 (exV x))
  | 7 => w.ownsRow B 36 2 val (n + 1) (rX 2 (setG Z n (exV x)) (n + 1)) ∧ (∀ q, val.ownBlock = some q → v.ownBlock = some q ∨ u.heap.size ≤ q)
  | _ => True
def apN (i : Nat) (L : Nat → Bool) (j : Nat) : Bool := if j = i then true else L j
theorem apN_7 {i : Nat} (h : i ≠ 7) : apN i L 7 = L 7 := by unfold apN; rw [if_neg (fun e => h e.symm)]
theorem apS_same {i : Nat} (h : i ≠ 7) (hS : apS g gp g7 B n rest P v x Z u L w) : apS g gp g7 B n rest P v x Z u (apN i L) w := by
  unfold apS at hS ⊢
  rw [apN_7 h]
  exact hS
theorem apF_same {i j : Nat} {val : Value} (h : i ≠ 7) (hF : apF gp B n v x Z u L j val w) : apF gp B n v x Z u (apN i L) j val w := by
  unfold apF at hF ⊢
  rw [apN_7 h]
  exact hF
theorem apS_grow {i : Nat} (h : i ≠ 7) (hS : apS g gp g7 B n rest P v x Z u L w) (hb : Below w.heap.size w w') : apS g gp g7 B n rest P v x Z u (apN i L) w' := by
  unfold apS at hS ⊢
  rw [apN_7 h]
  obtain ⟨h1, h2, h3, h4, h5⟩ := hS
  exact ⟨h1.on hb, h2.kept hb, h3.kept hb, h4.bel hb h4.size, fun e => ownT_kept (h5 e) hb⟩
theorem apF_grow {i j : Nat} {val : Value} (h : i ≠ 7) (hF : apF gp B n v x Z u L j val w) (hb : Below w.heap.size w w') : apF gp B n v x Z u (apN i L) j val w' := by
  have h2 := apF_same h hF
  generalize apN i L = M at *
  match j, h2 with
  | 0, h2 => exact h2
  | 1, h2 => exact h2
  | 2, h2 => exact h2
  | 3, h2 => exact h2
  | 4, h2 => exact h2
  | 5, h2 => exact h2
  | 6, ⟨b, e, h3⟩ => exact ⟨b, e, fun hm => (h3 hm).kept hb⟩
  | 7, ⟨h3, h4⟩ => exact ⟨ownT_kept h3 hb, h4⟩
  | _ + 8, _ => trivial
end
def StW (St : Nat → Oper → Prop) : List Oper → Nat → Prop
  | [], _ => True
  | o :: r, i => St i o ∧ StW St r (i + 1)
theorem stW_at {St : Nat → Oper → Prop} : ∀ {l : List Oper} {k : Nat}, StW St l k → ∀ i o, l[i]? = some o → St (k + i) o
  | [], _, _, _, _, h => by simp at h
  | q :: r, k, hs, i, o, h => by
    cases i with
    | zero =>
      simp at h
      subst h
      exact hs.1
    | succ i =>
      simp at h
      have := stW_at hs.2 i o h
      rwa [show k + 1 + i = k + (i + 1) by omega] at this
theorem notDst {ops : Array Oper} {t : Nat} (h : (dsts ops).all (fun d => decide (d ≠ t)) = true) : ∀ (j : Nat) (oj : Oper), ops[j]? = some oj → oj.dst ≠ some t := fun j oj hj e => by
  have := List.all_eq_true.1 h t (List.mem_filterMap.2 ⟨oj, by simpa using Array.mem_of_getElem? hj, e⟩)
  simp at this
theorem all_dst {ops : Array Oper} {n : Nat} (h : (dsts ops).all (fun d => decide (d < n)) = true) : ∀ d ∈ dsts ops, d < n := fun d hd => of_decide_eq_true (List.all_eq_true.1 h d hd)
theorem getD_of {a : Array Value} {t : Nat} {v : Value} (h : a[t]? = some v) : a.getD t undef = v := by simp [h]
theorem fin_ds {ops : Array Oper} {a0 : Act} {S : (Nat → Bool) → World → Prop} {φ : (Nat → Bool) → Nat → Value → World → Prop} {Q : Exit → Act → World → Prop} (ds : List Nat) (h : dsts ops = ds)
    (f : ∀ (vs : Nat → Value) (L : Nat → Bool) (w : World), (∀ j, j < ops.size → L j = true) → S L w → (∀ (i : Nat) (o : Oper) (d : Nat), ops[i]? = some o → o.dst = some d → φ L i (vs d) w) → Q .normal (putAll a0 vs ds) w) :
    ∀ (vs : Nat → Value) (L : Nat → Bool) (w : World), (∀ j, j < ops.size → L j = true) → S L w → (∀ (i : Nat) (o : Oper) (d : Nat), ops[i]? = some o → o.dst = some d → φ L i (vs d) w) → Q .normal (putAll a0 vs (dsts ops)) w := by
  rw [h]
  exact f
theorem exInfo : (Try.prog.info? 36).map (fun i => (i.zero, i.size, i.bytes)) = some (some (.agg (SC 2 (exV ⟨0, ByteArray.empty⟩))), 2, 24) := by kernel_rfl
theorem run_bsX (x : Ex) (w : World) : (Instr.buildSlice 25 1 #[(0, .agg (SC 2 (exV x)))]).run Try.prog w = .ok (.slice (some ⟨w.heap.size, 0, none⟩) 1 1) (w.alloc (.cells (SC 2 (exV x)) 36)) := by
  kernel_rfl
section
variable {g gp g7 B n : Nat} {rest : ByteArray} {P : Pk} {v : Value} {x : Ex} {Z : Nat → Nat → Value} {u : World}
/-- One step of the region. -/
def apT (g gp g7 B n : Nat) (rest : ByteArray) (P : Pk) (v : Value) (x : Ex) (Z : Nat → Nat → Value) (u : World) (ops : Array Oper) (i : Nat) (o : Oper) : Prop :=
  ∀ (Q : Exit → Act → World → Prop) (L : Nat → Bool) (a : Act) (w : World), apS g gp g7 B n rest P v x Z u L w → L i = false → (∀ k, predOf o k = true → L k = true) → a.eval (.tmp 1) = .pointer (some ⟨gp, 0, none⟩) → a.eval (.tmp 7) = .pointer (some ⟨g7, 0, none⟩) →
    (∀ (j : Nat) (oj : Oper) (d : Nat), ops[j]? = some oj → oj.dst = some d → L j = true → apF gp B n v x Z u L j (a.eval (.tmp d)) w) →
    wpOp Try.prog ops Q i (fun a' w' => ∃ val, a' = a.put o.dst val ∧ apS g gp g7 B n rest P v x Z u (apN i L) w' ∧ apF gp B n v x Z u (apN i L) i val w' ∧ ∀ j z, j ≠ i → L j = true → apF gp B n v x Z u L j z w → apF gp B n v x Z u (apN i L) j z w') a w
theorem ap_value {ops : Array Oper} {i : Nat} {o : Oper} (hi : ops[i]? = some o) (hgd : o.guard = none) (h7 : i ≠ 7) {Q : Exit → Act → World → Prop} {L : Nat → Bool} {a : Act} {w : World} (hS : apS g gp g7 B n rest P v x Z u L w) {val : Value} (he : (execOp a.eval o).run Try.prog w = .ok (.value val) w) (hF : ∀ M, apF gp B n v x Z u M i val w) :
    wpOp Try.prog ops Q i (fun a' w' => ∃ val, a' = a.put o.dst val ∧ apS g gp g7 B n rest P v x Z u (apN i L) w' ∧ apF gp B n v x Z u (apN i L) i val w' ∧ ∀ j z, j ≠ i → L j = true → apF gp B n v x Z u L j z w → apF gp B n v x Z u (apN i L) j z w') a w := by
  refine wpOp_of hi hgd (wp_value he ⟨val, rfl, apS_same h7 hS, hF _, fun j z _ _ h => apF_same h7 h⟩)
theorem ap_all {ops : Array Oper} {a0 : Act} {Q : Exit → Act → World → Prop} (hst : StW (apT g gp g7 B n rest P v x Z u ops) ops.toList 0) (h1 : (dsts ops).all (fun d => decide (d ≠ 1)) = true) (h7 : (dsts ops).all (fun d => decide (d ≠ 7)) = true) (f1 : a0.tmps[1]? = some (.pointer (some ⟨gp, 0, none⟩))) (f7 : a0.tmps[7]? = some (.pointer (some ⟨g7, 0, none⟩))) :
    ∀ (i : Nat) (o : Oper), ops[i]? = some o → ∀ (L : Nat → Bool) (a : Act) (w : World), apS g gp g7 B n rest P v x Z u L w → L i = false →
      (∀ (j : Nat) (oj : Oper), ops[j]? = some oj → L j = true → ∀ k, predOf oj k = true → L k = true) → (∀ k, predOf o k = true → L k = true) →
      (∀ t : Nat, (∀ (j : Nat) (oj : Oper), ops[j]? = some oj → oj.dst ≠ some t) → a.tmps[t]? = a0.tmps[t]?) →
      (∀ (j : Nat) (oj : Oper) (d : Nat), ops[j]? = some oj → oj.dst = some d → L j = true → apF gp B n v x Z u L j (a.tmps.getD d undef) w) →
      wpOp Try.prog ops Q i (fun a' w' => ∃ v', a' = a.put o.dst v' ∧ apS g gp g7 B n rest P v x Z u (fun j => if j = i then true else L j) w' ∧ apF gp B n v x Z u (fun j => if j = i then true else L j) i v' w' ∧ ∀ j z, j ≠ i → L j = true → apF gp B n v x Z u L j z w → apF gp B n v x Z u (fun j => if j = i then true else L j) j z w') a w := by
  intro i o hi L a w hS hL _ hpr hfr hkn
  have h := stW_at hst i o (by rw [← hi]; simp)
  rw [Nat.zero_add] at h
  exact h _ L a w hS hL hpr (getD_of ((hfr 1 (notDst h1)).trans f1)) (getD_of ((hfr 7 (notDst h7)).trans f7)) hkn
theorem ap_six {ops : Array Oper} {o : Oper} (hi : ops[6]? = some o) (hgd : o.guard = none) {Q : Exit → Act → World → Prop} {L : Nat → Bool} {a : Act} {w : World} (hS : apS g gp g7 B n rest P v x Z u L w) {y : Operand} (ho : o.op = .buildSlice 25 1 #[(0, y)]) (hy : a.eval y = .agg (SC 2 (exV x))) :
    wpOp Try.prog ops Q 6 (fun a' w' => ∃ val, a' = a.put o.dst val ∧ apS g gp g7 B n rest P v x Z u (apN 6 L) w' ∧ apF gp B n v x Z u (apN 6 L) 6 val w' ∧ ∀ j z, j ≠ 6 → L j = true → apF gp B n v x Z u L j z w → apF gp B n v x Z u (apN 6 L) j z w') a w := by
  have hr := run_bsX x w
  have hb : Below w.heap.size w (w.alloc (.cells (SC 2 (exV x)) 36)) := (Below.refl _ w).alloc (Nat.le_refl _) _
  refine wpOp_of hi hgd ?_
  unfold Oper.wp execOp
  simp only [ho, List.map_toArray, List.map_cons, List.map_nil, hy, Sem.run_bind, hr, Result.andThen_ok, Sem.run_pure, Oper.upon]
  exact ⟨_, rfl, apS_grow (by decide) hS hb, ⟨_, rfl, fun _ => heap_alloc_new w _⟩, fun j z _ _ h => apF_grow (by decide) h hb⟩
theorem ap_seven {ops : Array Oper} {o : Oper} (hi : ops[7]? = some o) (hgd : o.guard = none) {Q : Exit → Act → World → Prop} {L : Nat → Bool} {a : Act} {w : World} (hS : apS g gp g7 B n rest P v x Z u L w) (hL : L 7 = false) {y z : Operand} (ho : o.op = .call { callee := .builtin .append, args := #[y, z], argTypes := #[25, 25] }) (hy : a.eval y = v) (hz : ∃ b, a.eval z = .slice (some ⟨b, 0, none⟩) 1 1 ∧ (L 7 = false → SAt w b 36 2 (exV x))) (hn : n < 1000000) (hB : B ≤ u.heap.size) (hgB : g < B) (hpB : gp < B) (h7 : g7 < u.heap.size) (h7v : v.ownBlock ≠ some g7) :
    wpOp Try.prog ops Q 7 (fun a' w' => ∃ val, a' = a.put o.dst val ∧ apS g gp g7 B n rest P v x Z u (apN 7 L) w' ∧ apF gp B n v x Z u (apN 7 L) 7 val w' ∧ ∀ j z, j ≠ 7 → L j = true → apF gp B n v x Z u L j z w → apF gp B n v x Z u (apN 7 L) j z w') a w := by
  obtain ⟨b, hz, hb⟩ := hz
  obtain ⟨h1, h2, h3, h4, h5⟩ := hS
  have hD := h5 hL
  have hN7 : apN 7 L 7 = true := by unfold apN; rw [if_pos rfl]
  have h4s := h4.size
  refine wpOp_of hi hgd (wp_of_list hgd (fun Q' hQ => ?_))
  refine ap_row hgd Try.underlying25 exInfo (by decide) (by decide) ho (exV_one x) hy hz hD (hb hL) hn (Nat.le_trans hB h4s) (fun v' w' q1 q2 q3 => hQ _ _ ⟨v', rfl, ?_, ?_, ?_⟩)
  · have bl : ∀ k, k < w.heap.size → v.ownBlock ≠ some k → w'.heap[k]? = w.heap[k]? := fun k hk hn => q2.block k hk (fun e => hn e.symm)
    have lo : ∀ k, k < B → v.ownBlock ≠ some k := fun k hk e => by have := ownM_base hD k e; omega
    refine ⟨(bl g (heap_lt h1) (lo g hgB)).trans h1, (bl gp (heap_lt h2) (lo gp hpB)).trans h2, (bl g7 (by omega) h7v).trans h3, ?_, fun e => by rw [hN7] at e; cases e⟩
    exact ⟨q2.os.trans h4.os, q2.tape.trans h4.tape, q2.output.trans h4.output, Nat.le_trans h4.size q2.size, fun k hk hn => (bl k (by omega) hn).trans (h4.block k hk hn)⟩
  · refine ⟨q1, fun q hq => ?_⟩
    rcases q3 q hq with e | e
    · exact .inl e
    · exact .inr (Nat.le_trans h4s e)
  · intro j z' hj _ hF
    match j, hj, hF with
    | 0, _, h => exact h
    | 1, _, h => exact h
    | 2, _, h => exact h
    | 3, _, h => exact h
    | 4, _, h => exact h
    | 5, _, h => exact h
    | 6, _, ⟨b, e, _⟩ => exact ⟨b, e, fun e => by rw [hN7] at e; cases e⟩
    | 7, h, _ => exact absurd rfl h
    | _ + 8, _, _ => trivial
end
section
variable {P : Pk} {m : Nat} {acc : List Ex} {k : Int} {rest : ByteArray}
theorem rx_end (h : isHd k = false) : rdEx P (m + 1) acc k rest = .ok { P with exts := acc, proto := k, pay := rest } := by
  unfold rdEx
  rw [if_pos h]
theorem rx_may (h : isEx k = true) (h2 : mayB k acc.length = false) : rdEx P (m + 1) acc k rest = .err 74 := by
  have e := isEx_iff.1 h
  unfold rdEx
  rw [if_neg (by rw [isHd_iff.2 (by omega)]; decide), if_pos ⟨by omega, h2⟩]
theorem rx_short (h : isHd k = true) (h2 : k = 44 ∨ mayB k acc.length = true) (h3 : rest.size < 8) : rdEx P (m + 1) acc k rest = .err 72 := by
  unfold rdEx
  rw [if_neg (by rw [h]; decide), if_neg (by rintro ⟨e1, e2⟩; rcases h2 with e | e; exact e1 e; rw [e] at e2; cases e2), if_pos h3]
theorem rx_long (h : isEx k = true) (h2 : mayB k acc.length = true) (h3 : 8 ≤ rest.size) (h4 : rest.size < ((txt rest 1).toNat + 1) * 8) : rdEx P (m + 1) acc k rest = .err 72 := by
  have e := isEx_iff.1 h
  unfold rdEx
  rw [if_neg (by rw [isHd_iff.2 (by omega)]; decide), if_neg (by rintro ⟨_, e2⟩; rw [h2] at e2; cases e2), if_neg (by omega), if_neg (by omega), if_pos h4]
theorem rx_ext (h : isEx k = true) (h2 : mayB k acc.length = true) (h3 : 8 ≤ rest.size) (h4 : ((txt rest 1).toNat + 1) * 8 ≤ rest.size) : rdEx P (m + 1) acc k rest = rdEx P m (acc ++ [⟨k, rest.extract 2 (((txt rest 1).toNat + 1) * 8)⟩]) (txt rest 0) (rest.extract (((txt rest 1).toNat + 1) * 8) rest.size) := by
  have e := isEx_iff.1 h
  rw [rdEx]
  rw [if_neg (by rw [isHd_iff.2 (by omega)]; decide), if_neg (by rintro ⟨_, e2⟩; rw [h2] at e2; cases e2), if_neg (by omega), if_neg (by omega), if_neg (by omega)]
theorem rx_bad (h3 : 8 ≤ rest.size) (h4 : txt rest 1 ≠ 0 ∨ getN (txt rest) 2 2 % 8 / 2 ≠ 0 ∨ isHd (txt rest 0) = true) : rdEx P (m + 1) acc 44 rest = .err 74 := by
  unfold rdEx
  rw [if_neg (by decide), if_neg (by rintro ⟨e, _⟩; exact e rfl), if_neg (by omega), if_pos rfl, if_pos h4]
theorem rx_cut (h3 : 8 ≤ rest.size) (h4 : ¬ (txt rest 1 ≠ 0 ∨ getN (txt rest) 2 2 % 8 / 2 ≠ 0 ∨ isHd (txt rest 0) = true)) : rdEx P (m + 1) acc 44 rest = .ok { P with exts := acc, cut := true, off := ((getN (txt rest) 2 2 / 8 * 8 : Nat) : Int), more := decide (getN (txt rest) 2 2 % 2 = 1), id := (getN (txt rest) 4 4 : Int), proto := txt rest 0, pay := rest.extract 8 rest.size } := by
  unfold rdEx
  rw [if_neg (by decide), if_neg (by rintro ⟨e, _⟩; exact e rfl), if_neg (by omega), if_pos rfl, if_neg h4]
end
theorem exs_more {acc : List Ex} {x : Ex} {Z : Nat → Nat → Value} (h : ∀ j y, acc[j]? = some y → ∀ f, f < 2 → Z j f = exV y f) : ∀ j y, (acc ++ [x])[j]? = some y → ∀ f, f < 2 → setG Z acc.length (exV x) j f = exV y f := by
  intro j y hj f hf
  by_cases e : j < acc.length
  · rw [List.getElem?_append_left e] at hj
    rw [gD _ _ _ (by omega)]
    exact h j y hj f hf
  · rw [List.getElem?_append_right (by omega)] at hj
    have e2 : j = acc.length := by
      have := (List.getElem?_eq_some_iff.1 hj).1
      simp at this
      omega
    subst e2
    simp at hj
    subst hj
    rw [gE]
def HSt (g gp B : Nat) (P : Pk) (R : Rd) (w : World) (acc : List Ex) (k : Int) (rest : ByteArray) (v : Value) (Z : Nat → Nat → Value) (z : World) : Prop :=
  acc.length ≤ 4 ∧ RdAt z g rest ∧ rest.size < 4611686018427387904 ∧ SAt z gp 27 46 (pkV P v) ∧ z.ownsRow B 36 2 v acc.length (rX 2 Z acc.length) ∧ (∀ j x, acc[j]? = some x → ∀ f, f < 2 → Z j f = exV x f) ∧ rdEx P (5 - acc.length) acc k rest = R ∧ Touch (fun q => q = g ∨ q = gp) w z
/-- How headers ends. -/
def HEnd (g gp B : Nat) (R : Rd) (w : World) (e : Ending) (w' : World) : Prop :=
  Touch (fun q => q = g ∨ q = gp) w w' ∧ ((∃ x, R = .err x ∧ e = gup x) ∨ ∃ Q v Z P', R = .ok Q ∧ e = .returned (.int .i64 Q.proto) ∧ RdAt w' g Q.pay ∧ SAt w' gp 27 46 (pkV P' v) ∧ { P' with proto := Q.proto, pay := Q.pay, exts := Q.exts } = Q ∧ w'.ownsRow B 36 2 v Q.exts.length (rX 2 Z Q.exts.length) ∧ (∀ j x, Q.exts[j]? = some x → ∀ f, f < 2 → Z j f = exV x f))
set_option maxHeartbeats 4000000 in
theorem headers_run (g gp : Nat) (s : ByteArray) (P : Pk) (k0 : Int) (w : World) (hg : RdAt w g s) (hs : s.size < 4611686018427387904) (hp : SAt w gp 27 46 (pkV P (.slice none 0 0))) (hne : gp ≠ g) : Calls Try.prog 75 #[.pointer (some ⟨g, 0, none⟩), .pointer (some ⟨gp, 0, none⟩), .int .i64 k0] w fun e w' => HEnd g gp w.heap.size (rdEx P 5 [] k0 s) w e w' := by
  have H0 : Hid (HSt g gp w.heap.size P (rdEx P 5 [] k0 s) w [] k0 s (.slice none 0 0) (fun _ _ => undef) w) := Hid.mk ⟨by simp, hg, hs, hp, World.ownsRow_nil w _ _ _, fun j x h => by simp at h, rfl, Touch.refl _ _⟩
  generalize rdEx P 5 [] k0 s = R at *
  have hgl := heap_lt hg
  have hpl := heap_lt hp
  clear hg hp hs
  go_enter Try.func75, Try.ntmps75
  go_wp2_with fail
  refine wp_scope_straight (wp_seq (wp_label ?_))
  show Code.wp _ _ _ _ _
  go_wp2_with fail
  go_loopg [2] 5 (fun gm s2 z => ∃ (acc : List Ex) (k : Int) (rest : ByteArray) (v : Value) (Z : Nat → Nat → Value), Hid (gm = 5 - acc.length) ∧ s2 = .int .i64 k ∧ Hid (HSt g gp w.heap.size P R w acc k rest v Z z))
  case atStart => exact ⟨[], k0, s, _, _, Hid.mk rfl, rfl, H0⟩
  case round =>
    obtain ⟨acc, k, rest, v, Z, HG, rfl, HS⟩ := hrel
    obtain ⟨hl, hr, hsz, hpk, hown, hZ, hrd, ht⟩ := HS.out
    obtain ⟨m, hm⟩ : ∃ m, 5 - acc.length = m + 1 := ⟨4 - acc.length, by omega⟩
    rw [hm] at hrd
    have HRD := Hid.mk hrd
    have HS0 := HS
    clear hrd
    cases hx : isEx k
    · by_cases h44 : k = 44
      · subst h44
        clear hZ HG HS
        go_wp2_with (go_at_call 70; refine (isExt_run _ _).mono ?_; rintro e u2 ⟨rfl, hB2⟩; refine Hid.out ?_)
        refine Hid.mk ?_
        replace hr := hr.on hB2
        replace hpk := hpk.kept hB2
        replace hown := ownT_kept hown hB2
        replace ht := ht.bel hB2 ht.size
        have HZ : Hid (∀ j x, acc[j]? = some x → ∀ f, f < 2 → Z j f = exV x f) := Hid.mk (by obtain ⟨_, _, _, _, _, q, _, _⟩ := HS0.out; exact q)
        have HSZ := Hid.mk hsz
        clear hsz hl hm
        by_cases h8 : rest.size < 8
        · have HC := Hid.mk (cut_short g gp rest P v u2 hr hpk hne h8)
          have HE : Hid (R = .err 72) := Hid.mk (by rw [← HRD.out]; exact rx_short (by decide) (.inl rfl) h8)
          go_wp2_with fail
          refine HC.out.mono ?_
          rintro e u3 ⟨rfl, t3⟩
          exact ⟨rfl, ht.tr t3, .inl ⟨72, HE.out, rfl⟩⟩
        · have h8' : 8 ≤ rest.size := by omega
          by_cases hb : txt rest 1 ≠ 0 ∨ getN (txt rest) 2 2 % 8 / 2 ≠ 0 ∨ isHd (txt rest 0) = true
          · have HC := Hid.mk (cut_bad g gp rest P v u2 hr hpk hne h8' hb)
            have HE : Hid (R = .err 74) := Hid.mk (by rw [← HRD.out]; exact rx_bad h8' hb)
            clear hb h8 h8'
            go_wp2_with fail
            refine HC.out.mono ?_
            rintro e u3 ⟨rfl, t3⟩
            exact ⟨rfl, ht.tr t3, .inl ⟨74, HE.out, rfl⟩⟩
          · have HE := rx_cut (P := P) (m := m) (acc := acc) h8' hb
            rw [HRD.out] at HE
            replace HE := Hid.mk HE
            have hq1 : txt rest 1 = 0 := by
              by_cases e : txt rest 1 = 0
              · exact e
              · exact absurd (.inl e) hb
            have hq2 : getN (txt rest) 2 2 % 8 / 2 = 0 := by
              by_cases e : getN (txt rest) 2 2 % 8 / 2 = 0
              · exact e
              · exact absurd (.inr (.inl e)) hb
            have hq3 : isHd (txt rest 0) = false := by
              cases e : isHd (txt rest 0)
              · rfl
              · exact absurd (.inr (.inr e)) hb
            have HC := Hid.mk (cut_ok g gp rest P v u2 hr hpk hne h8' hq1 hq2 hq3)
            clear hb h8 h8' hq1 hq2 hq3
            have HOW := Hid.mk hown
            have HT := Hid.mk ht
            clear hown ht hr hpk
            go_wp2_with (go_at_call 81; refine HC.out.mono ?_; rintro e u3 ⟨rfl, r3, p3, t3⟩; refine Hid.out ?_)
            refine Hid.mk ?_
            generalize HB0 : txt rest 0 = b0 at *
            go_wp2_with fail
            show bodyPost _ _ _ Exit.ret _ _
            go_ret
            refine ⟨HT.out.tr t3, .inr ⟨_, v, Z, _, HE.out, rfl, r3, p3, rfl, ?_, HZ.out⟩⟩
            exact ownM_block HOW.out (fun q hq => t3.block q (HOW.out.lt q hq).2 (by have := ownM_base HOW.out q hq; omega))
      · have hh : isHd k = false := by
          have e : ¬ (k = 0 ∨ k = 43 ∨ k = 60) := fun e => by rw [isEx_iff.2 e] at hx; cases hx
          exact isHd_no.2 (by omega)
        have h44b : (k == 44) = false := beq_false_of_ne h44
        go_wp2_with (go_at_call 70; refine (isExt_run _ _).mono ?_; rintro e u2 ⟨rfl, hB2⟩; refine Hid.out ?_)
        refine Hid.mk ?_
        replace hr := hr.on hB2
        replace hpk := hpk.kept hB2
        replace hown := ownT_kept hown hB2
        replace ht := ht.bel hB2 ht.size
        go_wp2_with fail
        show bodyPost _ _ _ Exit.ret _ _
        go_ret
        have HE := rx_end (P := P) (m := m) (acc := acc) (rest := rest) hh
        rw [HRD.out] at HE
        exact ⟨ht, .inr ⟨_, v, Z, P, HE, rfl, hr, hpk, rfl, hown, hZ⟩⟩
    · have HZ := Hid.mk hZ
      have HSZ := Hid.mk hsz
      clear hZ hsz HS HS0
      go_wp2_with (go_at_call 70; refine (isExt_run _ _).mono ?_; rintro e u2 ⟨rfl, hB2⟩; refine Hid.out ?_)
      refine Hid.mk ?_
      replace hr := hr.on hB2
      replace hpk := hpk.kept hB2
      replace hown := ownT_kept hown hB2
      replace ht := ht.bel hB2 ht.size
      obtain ⟨ad, cap, rfl, _⟩ := ownM_shape hown
      have cx := ldPx (pk_exts hpk)
      cases hmay : mayB k acc.length
      · have HE : Hid (R = .err 74) := Hid.mk (by rw [← HRD.out]; exact rx_may hx hmay)
        go_wp2_with (first | (refine wl_value rfl (exec_fpkL 11 43 (by decide) rfl rfl (by rfl)) ?_) | (refine wl_value rfl (exec_ld rfl (by rfl) cx) ?_) | (refine wl_value rfl (exec_lenX rfl (by rfl)) ?_) | (go_at_call 71; refine (mayStand_run k acc.length _).mono ?_; rintro e u3 ⟨rfl, hB3⟩; refine Hid.out ?_))
        refine Hid.mk ?_
        go_wp2_with fail
        refine (need_no 74 _).mono ?_
        rintro e u4 ⟨rfl, rfl⟩
        exact ⟨rfl, ht.bel hB3 ht.size, .inl ⟨74, HE.out, rfl⟩⟩
      · have hl4 : acc.length < 4 := (mayB_iff.1 hmay).1
        have HMY := Hid.mk hmay
        go_wp2_with (first | (refine wl_value rfl (exec_fpkL 11 43 (by decide) rfl rfl (by rfl)) ?_) | (refine wl_value rfl (exec_ld rfl (by rfl) cx) ?_) | (refine wl_value rfl (exec_lenX rfl (by rfl)) ?_) | (go_at_call 71; refine (mayStand_run k acc.length _).mono ?_; rintro e u3 ⟨rfl, hB3⟩; refine Hid.out ?_))
        refine Hid.mk ?_
        replace hr := hr.on hB3
        replace hpk := hpk.kept hB3
        replace hown := ownT_kept hown hB3
        replace ht := ht.bel hB3 ht.size
        clear cx hmay
        go_wp2_with (go_at_call 63; refine (need_ok 74 _).mono ?_; rintro e u4 ⟨rfl, rfl⟩; refine Hid.out ?_)
        refine Hid.mk ?_
        by_cases h8 : rest.size < 8
        · have HC := Hid.mk (ext_short g rest k u4 hr h8)
          have HE : Hid (R = .err 72) := Hid.mk (by rw [← HRD.out]; exact rx_short (isHd_iff.2 (by have := isEx_iff.1 hx; omega)) (.inr HMY.out) h8)
          go_wp2_with fail
          refine HC.out.mono ?_
          rintro e u5 ⟨rfl, t5⟩
          exact ⟨rfl, ht.tr (t5.mono (fun _ _ e => .inl e)), .inl ⟨72, HE.out, rfl⟩⟩
        · have h8' : 8 ≤ rest.size := by omega
          by_cases hlg : rest.size < ((txt rest 1).toNat + 1) * 8
          · have HC := Hid.mk (ext_long g rest k u4 hr (by have := HSZ.out; omega) h8' hlg)
            have HE : Hid (R = .err 72) := Hid.mk (by rw [← HRD.out]; exact rx_long hx HMY.out h8' hlg)
            clear hlg h8 h8'
            go_wp2_with fail
            refine HC.out.mono ?_
            rintro e u5 ⟨rfl, t5⟩
            exact ⟨rfl, ht.tr (t5.mono (fun _ _ e => .inl e)), .inl ⟨72, HE.out, rfl⟩⟩
          · have hle : ((txt rest 1).toNat + 1) * 8 ≤ rest.size := by omega
            have HC := Hid.mk (ext_ok g rest k u4 hr HSZ.out h8' hle)
            have HE := rx_ext (P := P) (m := m) hx HMY.out h8' hle
            rw [HRD.out] at HE
            replace HE := Hid.mk HE
            have HSR : Hid ((rest.extract (((txt rest 1).toNat + 1) * 8) rest.size).size < 4611686018427387904) := Hid.mk (by rw [cutP_size rest _ _ (Nat.le_refl _)]; have := HSZ.out; omega)
            clear hlg h8 h8' hle
            generalize rest.extract (((txt rest 1).toNat + 1) * 8) rest.size = rest2 at *
            generalize (Ex.mk k (rest.extract 2 (((txt rest 1).toNat + 1) * 8))) = x at *
            generalize txt rest 0 = k2 at *
            go_wp2_with (go_at_call 80; refine HC.out.mono ?_; rintro e u5 ⟨rfl, r5, t5⟩; refine Hid.out ?_)
            refine Hid.mk ?_
            have ht5 : Touch (fun q => q = g ∨ q = gp) w u5 := ht.tr (t5.mono (fun _ _ e => .inl e))
            have p5 := hpk.tou t5 hne
            have ow5 := ownM_block hown (fun q hq => t5.block q (hown.lt q hq).2 (by have := ownM_base hown q hq; omega))
            clear hr hpk hown ht t5 HC
            go_wp2_with (first | (refine wl_alO rfl rfl zeroEx ?_; intro g7 u6 hg7 q7 hB6; refine Hid.out ?_))
            refine Hid.mk ?_
            go_wp2_with (first | (refine st_stO rfl rfl isEx2 (exV_one _) q7 (by rfl) (by rfl) ?_; intro u7 q7b o7; refine Hid.out ?_))
            refine Hid.mk ?_
            have l5 := heap_lt r5
            have l5p := heap_lt p5
            have r7 : RdAt u7 g rest2 := (o7.block g (by omega)).trans (r5.on hB6)
            have p7 := (p5.kept hB6).only o7 (by omega)
            have ow7 := ownM_block (ownT_kept ow5 hB6) (fun q hq => o7.block q (by have := (ow5.lt q hq).2; omega))
            have ht7 := touch_new (ht5.bel hB6 ht5.size) o7 (by have := ht5.size; omega)
            have HOB : Hid (∀ q, (Value.slice ad acc.length cap).ownBlock = some q → q < u5.heap.size) := Hid.mk (fun q hq => (ow5.lt q hq).2)
            clear r5 p5 ow5 ht5 hB6 o7 q7 l5 l5p
            have hw7 := ht7.size
            have hv7 : (Value.slice ad acc.length cap).ownBlock ≠ some g7 := fun e => by have := (HOB.out g7 e); omega
            have l7 := heap_lt q7b
            go_upto_region 4 with fail
            refine wp_region_cut 8 rfl (by kernel_rfl) (any_invW (apS g gp g7 w.heap.size acc.length rest2 P (.slice ad acc.length cap) x Z u7) (apF gp w.heap.size acc.length (.slice ad acc.length cap) x Z u7) (by kernel_rfl) ⟨r7, p7, q7b, (Touch.refl _ _).drew, fun _ => ow7⟩ (ap_all ⟨
                fun Q L a w hS hL hpr f1 f7 kn => ap_value rfl rfl (by decide) hS (exec_move rfl f1) (fun M => rfl),
                fun Q L a w hS hL hpr f1 f7 kn => ap_value rfl rfl (by decide) hS (exec_move rfl f1) (fun M => rfl),
                fun Q L a w hS hL hpr f1 f7 kn => ap_value rfl rfl (by decide) hS (exec_nilc rfl (kn 1 _ 27 rfl rfl (hpr 1 (by kernel_rfl)))) (fun M => rfl),
                fun Q L a w hS hL hpr f1 f7 kn => ap_value rfl rfl (by decide) hS (exec_fpkL 11 43 (by decide) rfl rfl (kn 2 _ 28 rfl rfl (hpr 2 (by kernel_rfl)))) (fun M => rfl),
                fun Q L a w hS hL hpr f1 f7 kn => ap_value rfl rfl (by decide) hS (exec_ld rfl (kn 3 _ 29 rfl rfl (hpr 3 (by kernel_rfl))) (ldPx (pk_exts hS.2.1))) (fun M => rfl),
                fun Q L a w hS hL hpr f1 f7 kn => ap_value rfl rfl (by decide) hS (look_st rfl isEx2 hS.2.2.1 f7) (fun M => rfl),
                fun Q L a w hS hL hpr f1 f7 kn => ap_six rfl rfl hS rfl (kn 5 _ 31 rfl rfl (hpr 5 (by kernel_rfl))),
                fun Q L a w hS hL hpr f1 f7 kn => ap_seven rfl rfl hS hL rfl (kn 4 _ 30 rfl rfl (hpr 4 (by kernel_rfl))) (kn 6 _ 32 rfl rfl (hpr 6 (by kernel_rfl))) (by omega) hw7 hgl hpl l7 hv7,
                trivial⟩ (by kernel_rfl) (by kernel_rfl) rfl rfl) (fin_ds [26, 27, 28, 29, 30, 31, 32, 33] (by kernel_rfl) (fun vs L z hall hS hk => ?_)) (all_dst (by kernel_rfl)))
            have e26 : vs 26 = _ := hk 0 _ 26 rfl rfl
            have e33 := hk 7 _ 33 rfl rfl
            obtain ⟨r8, p8, _, t8, _⟩ := hS
            obtain ⟨ow8, hq8⟩ : z.ownsRow w.heap.size 36 2 (vs 33) (acc.length + 1) (rX 2 (setG Z acc.length (exV x)) (acc.length + 1)) ∧ _ := e33
            obtain ⟨ad2, cap2, hv2, _⟩ := ownM_shape ow8
            rw [hv2] at ow8 hq8
            show wpList Try.prog _ _ (_ :: _ :: _ :: []) _ _
            simp only [putAll, Act.put, List.setIfInBounds_toArray, List.set_cons_zero, List.set_cons_succ, e26, hv2]
            clear e26 hv2 hk hall
            have l8 := heap_lt r8
            have ht8 : Touch (fun q => q = g ∨ q = gp) w z := ⟨t8.os.trans ht7.os, t8.tape.trans ht7.tape, t8.output.trans ht7.output, Nat.le_trans ht7.size t8.size, fun j hj hn => (t8.block j (by omega) (fun e => by have := ownM_base ow7 j e; omega)).trans (ht7.block j hj hn)⟩
            go_wp2_with (first | (refine wl_value rfl (exec_fpkL 11 43 (by decide) rfl rfl (by rfl)) ?_) | (refine wl_stP rfl rfl (by rfl) (by rfl) (by decide) stX p8 (pk_up43 P _ _) ?_; intro u9 p9 o9; refine Hid.out ?_))
            refine Hid.mk ?_
            have r9 : RdAt u9 g rest2 := (o9.block g (fun e => hne e.symm)).trans r8
            have ow9 := ownM_block ow8 (fun q hq => o9.block q (by have := ownM_base ow8 q hq; omega))
            have ht9 := ht8.tr ((tou_only o9).mono (fun _ _ e => .inr e))
            go_wp2_with fail
            go_roundg (5 - (acc.length + 1))
            case rel => exact ⟨acc ++ [x], k2, rest2, _, setG Z acc.length (exV x), Hid.mk (by simp), rfl, Hid.mk ⟨by simp; omega, r9, HSR.out, p9, by simpa using ow9, exs_more HZ.out, by rw [show 5 - (acc ++ [x]).length = m by simp; omega]; exact HE.out.symm, ht9⟩⟩
            case measure => have := HG.out; omega
end Go.Proofs.Ytdlepeogmjmleaa
/-
  Own text. A packet of version 6: the program's reader.
-/
namespace Go.Proofs.Ytdlepeogmjmleaa
open Go.RowKit Go.Proofs
set_option maxRecDepth 100000
def pk6 (s d : Nat → Int) (c f h : Int) : Pk := ⟨true, s, true, d, 0, h, c, 0, 0, false, false, ByteArray.empty, f, [], false, ByteArray.empty⟩
theorem run_bd6 (s d : Nat → Int) (c f h : Int) (w : World) : (Instr.build 27 #[(0, .agg (SC 17 (adV true s))), (1, .agg (SC 17 (adV true d))), (4, .int .i64 c), (10, .int .i64 f), (3, .int .i64 h)]).run Try.prog w = .ok (.agg (SC 46 (pkV (pk6 s d c f h) (.slice none 0 0)))) w := by
  kernel_rfl
theorem exec_bd6 {a : Act} {o : Oper} {w : World} {x y z q r : Operand} (ho : o.op = .build 27 #[(0, x), (1, y), (4, z), (10, q), (3, r)]) {s d : Nat → Int} {c f h : Int} {H6 : Pk} (hx : a.eval x = .agg (SC 17 (adV true s))) (hy : a.eval y = .agg (SC 17 (adV true d))) (hz : a.eval z = .int .i64 c) (hq : a.eval q = .int .i64 f) (hr : a.eval r = .int .i64 h) (he : pk6 s d c f h = H6) : (execOp a.eval o).run Try.prog w = .ok (.value (.agg (SC 46 (pkV H6 (.slice none 0 0))))) w := by
  subst he
  unfold execOp
  simp only [ho, List.map_toArray, List.map_cons, List.map_nil, hx, hy, hz, hq, hr, Sem.run_bind, run_bd6, Result.andThen_ok, Sem.run_pure]
def ph6 (l : List Value) (B : Nat) (j : Nat) (vv : Value) (w : World) : Prop := if j = 14 then ∃ gp, B ≤ gp ∧ vv = .pointer (some ⟨gp, 0, none⟩) ∧ SAt w gp 27 46 (pkV zeroP (.slice none 0 0)) else vv = l.getD j undef
theorem ph6_kept {l : List Value} {B j : Nat} {vv : Value} {w w' : World} (h : ph6 l B j vv w) (hb : Below w.heap.size w w') : ph6 l B j vv w' := by
  unfold ph6 at h ⊢
  split
  · rename_i e
    rw [if_pos e] at h
    obtain ⟨gp, h1, h2, h3⟩ := h
    exact ⟨gp, h1, h2, h3.kept hb⟩
  · rename_i e
    rw [if_neg e] at h
    exact h
/-- How the reader of a packet ends. -/
def PEnd (g : Nat) (w : World) (R : Rd) (e : Ending) (w' : World) : Prop :=
  Touch (fun q => q = g) w w' ∧ ((∃ x, R = .err x ∧ e = gup x) ∨ ∃ Q v Z, R = .ok Q ∧ e = .returned (.agg (SC 46 (pkV Q v))) ∧ w'.ownsRow w.heap.size 36 2 v Q.exts.length (rX 2 Z Q.exts.length) ∧ (∀ j x, Q.exts[j]? = some x → ∀ f, f < 2 → Z j f = exV x f))
theorem touch_two {w u u' : World} {g gp : Nat} (h : Touch (fun q => q = g) w u) (k : Touch (fun q => q = g ∨ q = gp) u u') (hn : w.heap.size ≤ gp) : Touch (fun q => q = g) w u' :=
  ⟨k.os.trans h.os, k.tape.trans h.tape, k.output.trans h.output, Nat.le_trans h.size k.size, fun j hj hne => (k.block j (Nat.lt_of_lt_of_le hj h.size) (by rintro (e | e); exact hne e; omega)).trans (h.block j hj hne)⟩
theorem exec_shrI {a : Act} {o : Oper} {w : World} {x y : Operand} {t : TypeId} (ho : o.op = .binOp .shr 3 x y t) {i q : Nat} (hx : a.eval x = .int .i64 (i : Int)) (hy : a.eval y = .int .u64 20) (hq : i / 1048576 = q) : (execOp a.eval o).run Try.prog w = .ok (.value (.int .i64 (q : Int))) w := by
  subst hq
  exact exec_bin2 ho hx hy rfl (by simp [go_sem])
theorem p6_short (g : Nat) (b : ByteArray) (w : World) (hg : RdAt w g b) (h : b.size < 40) : Calls Try.prog 65 #[.pointer (some ⟨g, 0, none⟩)] w fun e w' => e = gup 70 ∧ Touch (fun q => q = g) w w' := by
  go_enter Try.func65, Try.ntmps65
  go_wp2_with (refine wl_alO rfl rfl zeroPk ?_; intro g1 u2 hg1 q1 hB2; refine Hid.out ?_)
  refine Hid.mk ?_
  have HT := Hid.mk (take_no g b 40 70 u2 (hg.on hB2) h)
  go_wp2_with fail
  refine HT.out.mono ?_
  rintro e u3 ⟨rfl, rfl⟩
  exact ⟨rfl, rfl, tou_bel hB2⟩
set_option maxHeartbeats 4000000 in
theorem p6_run (g : Nat) (b : ByteArray) (w : World) (hg : RdAt w g b) (hsm : b.size < 4611686018427387904) (h40 : 40 ≤ b.size) (R : Rd) (hR : (if b.size < 40 + getN (txt b) 4 2 then .err 72 else rdEx (h6 b) 5 [] (txt b 6) (b.extract 40 (40 + getN (txt b) 4 2))) = R) : Calls Try.prog 65 #[.pointer (some ⟨g, 0, none⟩)] w fun e w' =>
    PEnd g w R e w' := by
  have hz : (b.extract 0 40).size = 40 := by rw [cutP_size b 0 40 h40]
  have hz2 : (b.extract 40 b.size).size = b.size - 40 := cutP_size b 40 _ (Nat.le_refl _)
  have hb6 := txt_b b 6
  have hb7 := txt_b b 7
  have hM : getN (txt b) 4 2 < 65536 := by
    have := getN_lt (fun j => txt_b b j) 4 2
    have e : (256 : Nat) ^ 2 = 65536 := rfl
    omega
  have hW : getN (txt b) 0 4 < 4294967296 := by
    have := getN_lt (fun j => txt_b b j) 0 4
    have e : (256 : Nat) ^ 4 = 4294967296 := rfl
    omega
  have HN2 : Hid (∀ ww, Calls Try.prog 72 #[.string (b.extract 0 40), .int .i64 4, .int .i64 2] ww fun e w' => e = .returned (.int .i64 ((getN (txt b) 4 2 : Nat) : Int)) ∧ w' = ww) := Hid.mk (fun ww => by
    have := number_run (b.extract 0 40) 4 2 ww (by omega) (by decide) (by decide) (by omega)
    rw [getN_cut b h40 (by decide), Nat.zero_add] at this
    exact this)
  have HN4 : Hid (∀ ww, Calls Try.prog 72 #[.string (b.extract 0 40), .int .i64 0, .int .i64 4] ww fun e w' => e = .returned (.int .i64 ((getN (txt b) 0 4 : Nat) : Int)) ∧ w' = ww) := Hid.mk (fun ww => by
    have := number_run (b.extract 0 40) 0 4 ww (by omega) (by decide) (by decide) (by omega)
    rw [getN_cut b h40 (by decide), Nat.zero_add] at this
    exact this)
  have HN6 : Hid (∀ ww, Calls Try.prog 72 #[.string (b.extract 0 40), .int .i64 6, .int .i64 1] ww fun e w' => e = .returned (.int .i64 (txt b 6)) ∧ w' = ww) := Hid.mk (fun ww => by
    have := number_run (b.extract 0 40) 6 1 ww (by omega) (by decide) (by decide) (by omega)
    rw [getN_cut b h40 (by decide), Nat.zero_add, getN_one, Int.toNat_of_nonneg hb6.1] at this
    exact this)
  have HN70 : Hid (∀ ww, Calls Try.prog 72 #[.string (b.extract 0 40), .int .i64 7, .int .i64 1] ww fun e w' => e = .returned (.int .i64 (txt b 7)) ∧ w' = ww) := Hid.mk (fun ww => by
    have := number_run (b.extract 0 40) 7 1 ww (by omega) (by decide) (by decide) (by omega)
    rw [getN_cut b h40 (by decide), Nat.zero_add, getN_one, Int.toNat_of_nonneg hb7.1] at this
    exact this)
  have HN7 : Hid (∀ ww, Calls Try.prog 72 #[.string (b.extract 0 40), .int .i64 7, .int .i64 1] ww fun e w' => e = .returned (.int .i64 (txt b 7)) ∧ Below ww.heap.size ww w') := Hid.mk (fun ww => (HN70.out ww).mono (fun e w2 q => ⟨q.1, by rw [q.2]; exact Below.refl _ _⟩))
  have HTL : Hid (∀ ww, RdAt ww g b → Calls Try.prog 73 #[.pointer (some ⟨g, 0, none⟩), .int .i64 40, .int .i64 70] ww fun e w' => e = .returned (.string (b.extract 0 40)) ∧ RdAt w' g (b.extract 40 b.size) ∧ Only g ww w') := Hid.mk (fun ww r => take_ok g b 40 70 ww r h40)
  have HS1 : Hid (∀ ww, (Instr.sliceAt 9 (.string (b.extract 0 40)) (some (.int .i64 8)) (some (.int .i64 24)) none).run Try.prog ww = .ok (.string (b.extract 8 24)) ww) := Hid.mk (fun ww => by
    have := cutLH (b.extract 0 40) 8 24 ww (by decide) (by omega)
    rw [cutP_cut b h40 (by decide)] at this
    exact this)
  have HS2 : Hid (∀ ww, (Instr.sliceAt 9 (.string (b.extract 0 40)) (some (.int .i64 24)) (some (.int .i64 40)) none).run Try.prog ww = .ok (.string (b.extract 24 40)) ww) := Hid.mk (fun ww => by
    have := cutLH (b.extract 0 40) 24 40 ww (by decide) (by omega)
    rw [cutP_cut b h40 (by decide)] at this
    exact this)
  have HA1 : Hid (∀ ww, Calls Try.prog 74 #[.string (b.extract 8 24)] ww fun e w' => e = .returned (.agg (SC 17 (adV true (frB (b.extract 8 24))))) ∧ Below ww.heap.size ww w') := Hid.mk (fun ww => by
    have e : (b.extract 8 24).size = 16 := cutP_size b 8 24 (by omega)
    have := address_run (b.extract 8 24) ww (.inr e)
    rw [e] at this
    exact this)
  have HA2 : Hid (∀ ww, Calls Try.prog 74 #[.string (b.extract 24 40)] ww fun e w' => e = .returned (.agg (SC 17 (adV true (frB (b.extract 24 40))))) ∧ Below ww.heap.size ww w') := Hid.mk (fun ww => by
    have e : (b.extract 24 40).size = 16 := cutP_size b 24 40 (by omega)
    have := address_run (b.extract 24 40) ww (.inr e)
    rw [e] at this
    exact this)
  have HB6 : Hid (pk6 (frB (b.extract 8 24)) (frB (b.extract 24 40)) ((getN (txt b) 0 4 / 1048576 % 256 : Nat) : Int) ((getN (txt b) 0 4 % 1048576 : Nat) : Int) (txt b 7) = h6 b) := Hid.mk rfl
  have HM : Hid (∀ ww, RdAt ww g (b.extract 40 b.size) → Calls Try.prog 73 #[.pointer (some ⟨g, 0, none⟩), .int .i64 ((getN (txt b) 4 2 : Nat) : Int), .int .i64 72] ww fun e w' => (b.size < 40 + getN (txt b) 4 2 ∧ e = gup 72 ∧ w' = ww) ∨ (40 + getN (txt b) 4 2 ≤ b.size ∧ e = .returned (.string (b.extract 40 (40 + getN (txt b) 4 2))) ∧ (∃ s', RdAt w' g s') ∧ Only g ww w')) := Hid.mk (fun ww r => by
    by_cases e : b.size < 40 + getN (txt b) 4 2
    · exact (take_no g _ _ 72 ww r (by omega)).mono (fun _ _ q => .inl ⟨e, q.1, q.2⟩)
    · have := take_ok g _ (getN (txt b) 4 2) 72 ww r (by omega)
      rw [cutP_cut b (Nat.le_refl _) (by omega), Nat.add_zero] at this
      exact this.mono (fun _ _ q => .inr ⟨by omega, q.1, ⟨_, q.2.1⟩, q.2.2⟩))
  have HSZ : Hid ((b.extract 40 (40 + getN (txt b) 4 2)).size < 4611686018427387904) := Hid.mk (by
    rw [ByteArray.size_extract]
    omega)
  have HR := Hid.mk hR
  clear hR hsm hz hz2 hb6 hb7 h40 HN70
  generalize b.extract 40 (40 + getN (txt b) 4 2) = rest at *
  generalize b.extract 0 40 = L at *
  generalize b.extract 40 b.size = S8 at *
  generalize b.extract 8 24 = A1 at *
  generalize b.extract 24 40 = A2 at *
  generalize frB A1 = F1 at *
  generalize frB A2 = F2 at *
  generalize txt b 6 = K6 at *
  generalize txt b 7 = H7 at *
  generalize getN (txt b) 0 4 = W at *
  generalize getN (txt b) 4 2 = M at *
  generalize h6 b = H6 at *
  have hgl := heap_lt hg
  go_enter Try.func65, Try.ntmps65
  go_wp2_with (refine wl_alO rfl rfl zeroPk ?_; intro g1 u2 hg1 q1 hB2; refine Hid.out ?_)
  refine Hid.mk ?_
  have r2 := hg.on hB2
  go_wp2_with (go_at_call 73; refine (HTL.out _ r2).mono ?_; rintro e u3 ⟨rfl, r3, o3⟩; refine Hid.out ?_)
  refine Hid.mk ?_
  go_wp2_with (go_at_call 72; refine (HN2.out _).mono ?_; rintro e u4 ⟨rfl, rfl⟩; refine Hid.out ?_)
  refine Hid.mk ?_
  have t3 : Touch (fun q => q = g) w u4 := (tou_bel hB2).tr (tou_only o3)
  have q3 := q1.only o3 (by omega)
  go_wp2_with fail
  refine (HM.out _ r3).mono ?_
  rintro e u5 (⟨hlt, rfl, rfl⟩ | ⟨hle, rfl, ⟨s2, r5⟩, o5⟩)
  · exact ⟨rfl, t3, .inl ⟨72, by rw [← HR.out, if_pos hlt], rfl⟩⟩
  have HR2 : Hid (rdEx H6 5 [] K6 rest = R) := Hid.mk (by rw [← HR.out, if_neg (by omega)])
  clear hle
  go_wp2_with (first | (refine wl_value rfl (exec_frd rfl (by rfl)) ?_) | (refine wl_stR rfl rfl (by rfl) (by rfl) r5 ?_; intro u6 r6 o6; refine Hid.out ?_))
  refine Hid.mk ?_
  have t6 : Touch (fun q => q = g) w u6 := (t3.tr (tou_only o5)).tr (tou_only o6)
  have q6 := (q3.only o5 (by omega)).only o6 (by omega)
  clear r5 o5 o6 q3 t3 r3 r2 q1 o3
  go_wp2_with (go_at_call 72; refine (HN4.out _).mono ?_; rintro e u4 ⟨rfl, rfl⟩; refine Hid.out ?_)
  refine Hid.mk ?_
  go_upto_region 4 with fail
  refine wp_region_cut 15 rfl (by kernel_rfl) (any_steps (Below u4.heap.size u4) (fun v v' => Below v.heap.size v v') (ph6 ([.string L, .string A1, .agg (SC 17 (adV true F1)), .string L, .string A2, .agg (SC 17 (adV true F2)), .int .i64 ((W : Nat) : Int), .int .i64 ((W / 1048576 : Nat) : Int), .int .i64 ((W / 1048576 % 256 : Nat) : Int), .int .i64 ((W : Nat) : Int), .int .i64 ((W % 1048576 : Nat) : Int), .string L, .int .i64 H7, .agg (SC 46 (pkV H6 (.slice none 0 0))), undef] : List Value) u4.heap.size)
      [17, 18, 19, 20, 21, 22, 23, 24, 25, 26, 27, 28, 29, 30, 5]
      [(3, .string L), (4, .int .i64 ((W : Nat) : Int))]
      [[], [0], [1], [], [3], [4], [], [6], [7], [], [9], [], [11], [2, 5, 8, 10, 12], []]
      (by kernel_rfl) ⟨rfl, rfl, trivial⟩ (Below.drew (Below.refl _ _)) (fun v v' h hb => h.trans (hb.mono h.size)) (fun j vv v v' h hb => ph6_kept h hb)
      ⟨
      (fun QQ aa ww hS fr kn => ⟨trivial, fun K hK => wp_value (exec_move rfl fr.1) (hK _ _ rfl (Below.refl _ _))⟩),
      (fun QQ aa ww hS fr kn => ⟨trivial, fun K hK => wp_value (exec_slLH (u := .int .i64 8) (u' := .int .i64 24) rfl kn.1 rfl rfl (HS1.out ww)) (hK _ _ rfl (Below.refl _ _))⟩),
      (fun QQ aa ww hS fr kn => ⟨trivial, fun K hK => stepc en_address rfl (args1 kn.1) (HA1.out ww) (fun w' hb => hK _ _ rfl hb)⟩),
      (fun QQ aa ww hS fr kn => ⟨trivial, fun K hK => wp_value (exec_move rfl fr.1) (hK _ _ rfl (Below.refl _ _))⟩),
      (fun QQ aa ww hS fr kn => ⟨trivial, fun K hK => wp_value (exec_slLH (u := .int .i64 24) (u' := .int .i64 40) rfl kn.1 rfl rfl (HS2.out ww)) (hK _ _ rfl (Below.refl _ _))⟩),
      (fun QQ aa ww hS fr kn => ⟨trivial, fun K hK => stepc en_address rfl (args1 kn.1) (HA2.out ww) (fun w' hb => hK _ _ rfl hb)⟩),
      (fun QQ aa ww hS fr kn => ⟨trivial, fun K hK => wp_value (exec_move rfl fr.2.1) (hK _ _ rfl (Below.refl _ _))⟩),
      (fun QQ aa ww hS fr kn => ⟨trivial, fun K hK => wp_value (exec_shrI (i := W) rfl kn.1 rfl rfl) (hK _ _ rfl (Below.refl _ _))⟩),
      (fun QQ aa ww hS fr kn => ⟨trivial, fun K hK => wp_value (exec_andI (i := W / 1048576) (m := 255) rfl kn.1 rfl (and_low _ 8) (by omega) (by decide)) (hK _ _ rfl (Below.refl _ _))⟩),
      (fun QQ aa ww hS fr kn => ⟨trivial, fun K hK => wp_value (exec_move rfl fr.2.1) (hK _ _ rfl (Below.refl _ _))⟩),
      (fun QQ aa ww hS fr kn => ⟨trivial, fun K hK => wp_value (exec_andI (i := W) (m := 1048575) rfl kn.1 rfl (and_low _ 20) (by omega) (by decide)) (hK _ _ rfl (Below.refl _ _))⟩),
      (fun QQ aa ww hS fr kn => ⟨trivial, fun K hK => wp_value (exec_move rfl fr.1) (hK _ _ rfl (Below.refl _ _))⟩),
      (fun QQ aa ww hS fr kn => ⟨trivial, fun K hK => stepc en_number rfl (args3 kn.1 rfl rfl) (HN7.out ww) (fun w' hb => hK _ _ rfl hb)⟩),
      (fun QQ aa ww hS fr kn => ⟨trivial, fun K hK => wp_value (exec_bd6 rfl kn.1 kn.2.1 kn.2.2.1 kn.2.2.2.1 kn.2.2.2.2.1 HB6.out) (hK _ _ rfl (Below.refl _ _))⟩),
      (fun QQ aa ww hS fr kn => ⟨trivial, fun K hK => act_alloc zeroPk rfl (fun w2 hb hg => hK _ _ ⟨_, hS.size, rfl, hg⟩ hb)⟩),
      trivial⟩ ?_)
  intro vs u7 hB7 kn
  have e30 : vs 30 = .agg (SC 46 (pkV H6 (.slice none 0 0))) := kn 13 (by decide)
  obtain ⟨gp, hgp, e5, qp⟩ : ∃ gp, u4.heap.size ≤ gp ∧ vs 5 = .pointer (some ⟨gp, 0, none⟩) ∧ SAt u7 gp 27 46 (pkV zeroP (.slice none 0 0)) := kn 14 (by decide)
  clear kn
  show wpList Try.prog _ _ (_ :: []) _ _
  simp only [putAll, Act.put, List.setIfInBounds_toArray, List.set_cons_zero, List.set_cons_succ, e30, e5]
  clear e30 e5
  have hs4 := t6.size
  have l4 := heap_lt q6
  have l4r := heap_lt r6
  have r7 := r6.on hB7
  have q7 := q6.kept hB7
  have t7 := t6.bel hB7 t6.size
  have l7 := heap_lt q7
  have l7r := heap_lt r7
  have hs7 := t7.size
  go_wp2_with (refine st_stO rfl rfl isPk (fun i => pkV_one rfl i) qp (by rfl) (by rfl) ?_; intro u9 q9 o9; refine Hid.out ?_)
  refine Hid.mk ?_
  have r9 : RdAt u9 g rest := (o9.block g (by omega)).trans r7
  have qr9 := q7.only o9 (by omega)
  have t9 := touch_new t7 o9 (by omega)
  clear r6 q6 t6 r7 q7 t7 hB7 o9 qp
  go_wp2_with (go_at_call 72; refine (HN6.out _).mono ?_; rintro e u10 ⟨rfl, rfl⟩; refine Hid.out ?_)
  refine Hid.mk ?_
  have l9 := heap_lt q9
  have l9r := heap_lt qr9
  have HHD := Hid.mk (headers_run g gp rest H6 K6 u10 r9 HSZ.out q9 (by omega))
  go_wp2_with fail
  refine HHD.out.mono ?_
  rintro e u11 ⟨t11, hend⟩
  have t11b : Touch (fun q => q = g) w u11 := touch_two t9 t11 (by omega)
  rw [HR2.out] at hend
  rcases hend with ⟨x, hx, rfl⟩ | ⟨Q, v, Z, P2, hQ, rfl, r11, p11, he, ow, hZ⟩
  · exact ⟨rfl, t11b, .inl ⟨x, hx, rfl⟩⟩
  have q11 : SAt u11 g1 _ _ _ := (t11.block g1 l9r (by omega)).trans qr9
  obtain ⟨pr, hpr⟩ : ∃ pr, Q.proto = pr := ⟨_, rfl⟩
  obtain ⟨py, hpy⟩ : ∃ py, Q.pay = py := ⟨_, rfl⟩
  rw [hpr, hpy] at he
  rw [hpy] at r11
  rw [hpr]
  have HZ := Hid.mk hZ
  have HQ := Hid.mk hQ
  clear hQ
  have HEE := Hid.mk he
  have HOW := Hid.mk ow
  have hon : v.oneCell' = true := by
    obtain ⟨_, _, e, _⟩ := ownM_shape ow
    rw [e]
    rfl
  clear hZ he ow hpr hpy
  go_wp2_with (first | (refine wl_value rfl (exec_fpkL 2 34 (by decide) rfl rfl (by rfl)) ?_) | (refine wl_stP rfl rfl (by rfl) (by rfl) (by decide) (stI pr) p11 (pk_up34 P2 v pr) ?_; intro u12 p12 o12; refine Hid.out ?_))
  refine Hid.mk ?_
  have r12 : RdAt u12 g py := (o12.block g (by omega)).trans r11
  have cr := ldPs r12.cell
  go_wp2_with (first | (refine wl_value rfl (exec_frd rfl (by rfl)) ?_) | (refine wl_value rfl (exec_ld rfl (by rfl) cr) ?_) | (refine wl_value rfl (exec_fpkL 13 45 (by decide) rfl rfl (by rfl)) ?_) | (refine wl_stP rfl rfl (by rfl) (by rfl) (by decide) (stS py) p12 (pk_up45 _ v py) ?_; intro u13 p13 o13; refine Hid.out ?_))
  refine Hid.mk ?_
  have q13 := (q11.only o12 (by omega)).only o13 (by omega)
  go_wp2_with (first | (refine wl_value rfl (look_st rfl isPk p13 (by rfl)) ?_) | (refine st_stO rfl rfl isPk (fun i => pkV_one hon i) q13 (by rfl) (by rfl) ?_; intro u14 q14 o14; refine Hid.out ?_))
  refine Hid.mk ?_
  have hpk : pkV Q v = pkV { { P2 with proto := pr } with pay := py } v := by
    conv => lhs; rw [← HEE.out]
    rfl
  go_wp2_with fail
  have tf := touch_new (touch_new (touch_new t11b o12 (by omega)) o13 (by omega)) o14 hg1
  have k1 := ownM_block HOW.out (fun q hq => o12.block q (by have := ownM_base HOW.out q hq; omega))
  have k2 := ownM_block k1 (fun q hq => o13.block q (by have := ownM_base k1 q hq; omega))
  have k3 := ownM_block k2 (fun q hq => o14.block q (by have := ownM_base k2 q hq; omega))
  exact bodyPost_ret (res_st rfl isPk q14 (by rfl)) rfl ⟨tf, .inr ⟨Q, v, Z, HQ.out, by rw [hpk], ownM_mono k3 t9.size, HZ.out⟩⟩
theorem en_p6 (args : Array Value) (w : World) : (callFunc 65 args).run Try.prog w = .ok (.enter 65 args) w := by kernel_rfl
end Go.Proofs.Ytdlepeogmjmleaa
/-
  Own text. A packet of version 4: the program's reader.
-/
namespace Go.Proofs.Ytdlepeogmjmleaa
open Go.RowKit Go.Proofs
set_option maxRecDepth 100000
def pk4 (s d : Nat → Int) (c i h p o : Int) (m st : Bool) (op py : ByteArray) : Pk := ⟨false, s, false, d, p, h, c, i, o, m, st, op, 0, [], false, py⟩
theorem run_bd4 (s d : Nat → Int) (c i h p o : Int) (m st : Bool) (op py : ByteArray) (w : World) : (Instr.build 27 #[(0, .agg (SC 17 (adV false s))), (1, .agg (SC 17 (adV false d))), (4, .int .i64 c), (5, .int .i64 i), (3, .int .i64 h), (2, .int .i64 p), (6, .int .i64 o), (7, .bool m), (8, .bool st), (9, .string op), (13, .string py)]).run Try.prog w = .ok (.agg (SC 46 (pkV (pk4 s d c i h p o m st op py) (.slice none 0 0)))) w := by
  kernel_rfl
theorem exec_bd4 {a : Act} {oo : Oper} {w : World} {x0 x1 x2 x3 x4 x5 x6 x7 x8 x9 xa : Operand} (ho : oo.op = .build 27 #[(0, x0), (1, x1), (4, x2), (5, x3), (3, x4), (2, x5), (6, x6), (7, x7), (8, x8), (9, x9), (13, xa)]) {s d : Nat → Int} {c i h p o : Int} {m st : Bool} {op py : ByteArray} {Q4 : Pk}
    (h0 : a.eval x0 = .agg (SC 17 (adV false s))) (h1 : a.eval x1 = .agg (SC 17 (adV false d))) (h2 : a.eval x2 = .int .i64 c) (h3 : a.eval x3 = .int .i64 i) (h4 : a.eval x4 = .int .i64 h) (h5 : a.eval x5 = .int .i64 p) (h6 : a.eval x6 = .int .i64 o) (h7 : a.eval x7 = .bool m) (h8 : a.eval x8 = .bool st) (h9 : a.eval x9 = .string op) (ha : a.eval xa = .string py) (he : pk4 s d c i h p o m st op py = Q4) : (execOp a.eval oo).run Try.prog w = .ok (.value (.agg (SC 46 (pkV Q4 (.slice none 0 0))))) w := by
  subst he
  unfold execOp
  simp only [ho, List.map_toArray, List.map_cons, List.map_nil, h0, h1, h2, h3, h4, h5, h6, h7, h8, h9, ha, Sem.run_bind, run_bd4, Result.andThen_ok, Sem.run_pure]
theorem put2_eq {b : ByteArray} {n : Int} (h : 12 ≤ b.size) (h0 : 0 ≤ n) (h1 : n < 65536) : b.extract 10 12 = putT n.toNat 2 ↔ n = (getN (txt b) 10 2 : Int) := by
  have e := put_getN b (a := 10) (z := 2) h
  constructor
  · intro q
    have := get_putA (N := n.toNat) (z := 2) (by decide) (by have : (256 : Nat) ^ 2 = 65536 := rfl; omega)
    rw [← q, getN_cut b h (by decide), Nat.add_zero] at this
    omega
  · intro q
    rw [q, Int.toNat_natCast]
    exact e.symm
theorem r4_len {b : ByteArray} (h : (txt b 0).toNat % 16 * 4 < 20 ∨ getN (txt b) 2 2 < (txt b 0).toNat % 16 * 4 ∨ b.size < getN (txt b) 2 2) : rd4 b = .err 72 := by
  unfold rd4
  exact if_pos h
theorem r4_sum {b : ByteArray} (h : ¬ ((txt b 0).toNat % 16 * 4 < 20 ∨ getN (txt b) 2 2 < (txt b 0).toNat % 16 * 4 ∨ b.size < getN (txt b) 2 2)) (h2 : sumT (b.extract 0 10 ++ b.extract 12 ((txt b 0).toNat % 16 * 4)) ≠ (getN (txt b) 10 2 : Int)) : rd4 b = .err 73 := by
  unfold rd4
  exact (if_neg h).trans (if_pos h2)
theorem r4_form {b : ByteArray} (h : ¬ ((txt b 0).toNat % 16 * 4 < 20 ∨ getN (txt b) 2 2 < (txt b 0).toNat % 16 * 4 ∨ b.size < getN (txt b) 2 2)) (h2 : ¬ sumT (b.extract 0 10 ++ b.extract 12 ((txt b 0).toNat % 16 * 4)) ≠ (getN (txt b) 10 2 : Int)) (h3 : 32768 ≤ getN (txt b) 6 2) : rd4 b = .err 74 := by
  unfold rd4
  exact (if_neg h).trans ((if_neg h2).trans (if_pos h3))
theorem p4_short (g : Nat) (b : ByteArray) (w : World) (hg : RdAt w g b) (h : b.size < 20) : Calls Try.prog 64 #[.pointer (some ⟨g, 0, none⟩)] w fun e w' => e = gup 70 ∧ Touch (fun q => q = g) w w' := by
  go_enter Try.func64, Try.ntmps64
  go_wp2_with (refine wl_alO rfl rfl zeroPk ?_; intro g1 u2 hg1 q1 hB2; refine Hid.out ?_)
  refine Hid.mk ?_
  have cr := ldPs (hg.on hB2).cell
  go_wp2_with (first | (refine wl_value rfl (exec_frd rfl (by rfl)) ?_) | (refine wl_value rfl (exec_ld rfl (by rfl) cr) ?_) | (refine wl_value rfl (cmp_ge (m := (b.size : Int)) (n := 20) rfl (by rfl) (by rfl)) ?_))
  refine (need_no' 70 _ (decide_eq_false (by omega))).mono ?_
  rintro e u3 ⟨rfl, rfl⟩
  exact ⟨rfl, rfl, tou_bel hB2⟩
set_option maxHeartbeats 4000000 in
theorem p4_run (g : Nat) (b : ByteArray) (w : World) (hg : RdAt w g b) (hsm : b.size < 4611686018427387904) (h20 : 20 ≤ b.size) (R : Rd) (hR : rd4 b = R) : Calls Try.prog 64 #[.pointer (some ⟨g, 0, none⟩)] w fun e w' => PEnd g w R e w' := by
  have HN0 : Hid (∀ ww, Calls Try.prog 72 #[.string b, .int .i64 0, .int .i64 1] ww fun e w' => e = .returned (.int .i64 (((txt b 0).toNat : Nat) : Int)) ∧ Below ww.heap.size ww w') := Hid.mk (fun ww => by
    have := number_run b 0 1 ww (by omega) (by decide) (by decide) (by omega)
    rw [getN_one] at this
    exact this.mono (fun e w2 q => ⟨q.1, by rw [q.2]; exact Below.refl _ _⟩))
  have HN2 : Hid (∀ ww, Calls Try.prog 72 #[.string b, .int .i64 2, .int .i64 2] ww fun e w' => e = .returned (.int .i64 ((getN (txt b) 2 2 : Nat) : Int)) ∧ Below ww.heap.size ww w') := Hid.mk (fun ww => (number_run b 2 2 ww (by omega) (by decide) (by decide) (by omega)).mono (fun e w2 q => ⟨q.1, by rw [q.2]; exact Below.refl _ _⟩))
  have HR := Hid.mk hR
  have HKS : Hid (∃ K0 SZ, (txt b 0).toNat = K0 ∧ getN (txt b) 2 2 = SZ) := Hid.mk ⟨_, _, rfl, rfl⟩
  obtain ⟨K0, SZ, hK0, hSZ⟩ := HKS.out
  rw [hK0] at HN0
  rw [hSZ] at HN2
  have HK0 := Hid.mk hK0
  have HSZ := Hid.mk hSZ
  have HSM := Hid.mk hsm
  have H20 := Hid.mk h20
  have hd20 : decide ((20 : Int) ≤ (b.size : Int)) = true := decide_eq_true (by omega)
  clear hR HKS hK0 hSZ hsm h20
  go_enter Try.func64, Try.ntmps64
  go_wp2_with (refine wl_alO rfl rfl zeroPk ?_; intro g1 u2 hg1 q1 hB2; refine Hid.out ?_)
  refine Hid.mk ?_
  have r2 := hg.on hB2
  have cr := ldPs r2.cell
  go_wp2_with (first | (refine wl_value rfl (exec_frd rfl (by rfl)) ?_) | (refine wl_value rfl (exec_ld rfl (by rfl) cr) ?_) | (refine wl_value rfl (cmp_ge (m := (b.size : Int)) (n := 20) rfl (by rfl) (by rfl)) ?_) | (go_at_call 63; refine (need_ok' 70 _ (by first | exact hd20 | rfl)).mono ?_; rintro e u3 ⟨rfl, rfl⟩; refine Hid.out ?_))
  refine Hid.mk ?_
  clear cr
  go_upto_region 2 with fail
  refine wp_region3 (Below u3.heap.size u3) u3.heap.size
      ([] : List (Nat × Cont))
      [kv (.pointer (some ⟨g, 0, none⟩)), kv (.pointer (some ⟨g, 0, none⟩)), kv (.pointer (some ⟨g, 0, none⟩)), kv (.string b), kv (.int .i64 ((K0 : Nat) : Int)), kv (.int .i64 ((K0 % 16 : Nat) : Int)), kv (.int .i64 ((K0 % 16 * 4 : Nat) : Int)), kv (.pointer (some ⟨g, 0, none⟩)), kv (.pointer (some ⟨g, 0, none⟩)), kv (.pointer (some ⟨g, 0, none⟩)), kv (.string b), kv (.int .i64 ((SZ : Nat) : Int)), kv (.int .i64 ((K0 % 16 * 4 : Nat) : Int)), kv (.int .i64 ((SZ : Nat) : Int))]
      [.none, .none, .none, .none, .none, .none, .none, .none, .none, .none, .none, .none, .none, .none]
      [some 14, some 15, some 16, some 17, some 18, some 19, some 20, some 21, some 22, some 23, some 24, some 25, some 3, some 4]
      [(0, .pointer (some ⟨g, 0, none⟩))]
      [[], [.slot 0], [.slot 1], [.slot 2], [.slot 3], [.slot 4], [.slot 5], [], [.slot 7], [.slot 8], [.slot 9], [.slot 10], [.slot 6], [.slot 11]]
      [.slot 12, .slot 13] [14, 15, 16, 17, 18, 19, 20, 21, 22, 23, 24, 25, 3, 4]
      rfl (by kernel_rfl) ⟨rfl, trivial⟩ ((Below.refl _ u3).drew) (Nat.le_refl _) trivial trivial (below_GcW (Nat.le_refl _))
      ⟨
      (fun QQ aa ww own hS hBg fr kn => .inl ⟨trivial, fun K hK => wp_value (exec_move rfl fr.1) (hK _ _ ⟨Touch.refl _ _, rfl⟩)⟩),
      (fun QQ aa ww own hS hBg fr kn => .inl ⟨trivial, fun K hK => wp_value (exec_nilc rfl kn.1) (hK _ _ ⟨Touch.refl _ _, rfl⟩)⟩),
      (fun QQ aa ww own hS hBg fr kn => .inl ⟨trivial, fun K hK => wp_value (exec_frd rfl kn.1) (hK _ _ ⟨Touch.refl _ _, rfl⟩)⟩),
      (fun QQ aa ww own hS hBg fr kn => .inl ⟨trivial, fun K hK => wp_value (exec_ld rfl kn.1 (ldPs (RdAt.cell (RdAt.on r2 hS)))) (hK _ _ ⟨Touch.refl _ _, rfl⟩)⟩),
      (fun QQ aa ww own hS hBg fr kn => .inl ⟨trivial, fun K hK => stepc en_number rfl (args3 kn.1 rfl rfl) (HN0.out ww) (fun w' hb => hK _ _ ⟨touch_below hb, rfl⟩)⟩),
      (fun QQ aa ww own hS hBg fr kn => .inl ⟨trivial, fun K hK => wp_value (exec_remW (i := K0) (m := 16) rfl kn.1 rfl rfl (by decide)) (hK _ _ ⟨Touch.refl _ _, rfl⟩)⟩),
      (fun QQ aa ww own hS hBg fr kn => .inl ⟨trivial, fun K hK => wp_value (exec_mulW (i := K0 % 16) (m := 4) rfl kn.1 rfl rfl (by omega)) (hK _ _ ⟨Touch.refl _ _, rfl⟩)⟩),
      (fun QQ aa ww own hS hBg fr kn => .inl ⟨trivial, fun K hK => wp_value (exec_move rfl fr.1) (hK _ _ ⟨Touch.refl _ _, rfl⟩)⟩),
      (fun QQ aa ww own hS hBg fr kn => .inl ⟨trivial, fun K hK => wp_value (exec_nilc rfl kn.1) (hK _ _ ⟨Touch.refl _ _, rfl⟩)⟩),
      (fun QQ aa ww own hS hBg fr kn => .inl ⟨trivial, fun K hK => wp_value (exec_frd rfl kn.1) (hK _ _ ⟨Touch.refl _ _, rfl⟩)⟩),
      (fun QQ aa ww own hS hBg fr kn => .inl ⟨trivial, fun K hK => wp_value (exec_ld rfl kn.1 (ldPs (RdAt.cell (RdAt.on r2 hS)))) (hK _ _ ⟨Touch.refl _ _, rfl⟩)⟩),
      (fun QQ aa ww own hS hBg fr kn => .inl ⟨trivial, fun K hK => stepc en_number rfl (args3 kn.1 rfl rfl) (HN2.out ww) (fun w' hb => hK _ _ ⟨touch_below hb, rfl⟩)⟩),
      (fun QQ aa ww own hS hBg fr kn => .inl ⟨trivial, fun K hK => wp_value (exec_assign rfl kn.1) (hK _ _ ⟨Touch.refl _ _, rfl⟩)⟩),
      (fun QQ aa ww own hS hBg fr kn => .inl ⟨trivial, fun K hK => wp_value (exec_assign rfl kn.1) (hK _ _ ⟨Touch.refl _ _, rfl⟩)⟩),
      trivial⟩ ?_
  intro vs own u4 hB4 hsz kn inj
  have e3 : vs 3 = .int .i64 ((K0 % 16 * 4 : Nat) : Int) := kn.1
  have e4 : vs 4 = .int .i64 ((SZ : Nat) : Int) := kn.2.1
  clear kn inj hsz
  simp only [putAll, Act.put, List.setIfInBounds_toArray, List.set_cons_zero, List.set_cons_succ, e3, e4]
  clear e3 e4
  have r4 := r2.on hB4
  have q4 := q1.kept hB4
  have t4 : Touch (fun q => q = g) w u4 := (tou_bel (hB2.trans (hB4.mono hB2.size)))
  have hHb : K0 % 16 * 4 ≤ 60 := by omega
  have HH : Hid ((txt b 0).toNat % 16 * 4 = K0 % 16 * 4) := Hid.mk (by rw [HK0.out])
  generalize K0 % 16 * 4 = H at *
  by_cases c1 : 20 ≤ H
  case neg =>
    have HE : Hid (R = .err 72) := Hid.mk (by rw [← HR.out]; exact r4_len (.inl (by rw [HH.out]; omega)))
    have c1' : ¬ (20 : Int) ≤ (H : Int) := by omega
    go_wp2_with fail
    refine (need_no 72 _).mono ?_
    rintro e u5 ⟨rfl, rfl⟩
    exact ⟨rfl, t4, .inl ⟨72, HE.out, rfl⟩⟩
  by_cases c2 : H ≤ SZ
  case neg =>
    have HE : Hid (R = .err 72) := Hid.mk (by rw [← HR.out]; exact r4_len (.inr (.inl (by rw [HH.out, HSZ.out]; omega))))
    have c1' : (20 : Int) ≤ (H : Int) := by omega
    have c2' : ¬ (H : Int) ≤ (SZ : Int) := by omega
    go_wp2_with fail
    refine (need_no 72 _).mono ?_
    rintro e u5 ⟨rfl, rfl⟩
    exact ⟨rfl, t4, .inl ⟨72, HE.out, rfl⟩⟩
  have c1' : (20 : Int) ≤ (H : Int) := by omega
  have c2' : (H : Int) ≤ (SZ : Int) := by omega
  go_wp2_with (go_at_call 63; refine (need_ok 72 _).mono ?_; rintro e u5 ⟨rfl, rfl⟩; refine Hid.out ?_)
  refine Hid.mk ?_
  by_cases c3 : b.size < SZ
  · have HE : Hid (R = .err 72) := Hid.mk (by rw [← HR.out]; exact r4_len (.inr (.inr (by rw [HSZ.out]; omega))))
    have HT := Hid.mk (take_no g b SZ 72 u5 r4 c3)
    go_wp2_with fail
    refine HT.out.mono ?_
    rintro e u6 ⟨rfl, rfl⟩
    exact ⟨rfl, t4, .inl ⟨72, HE.out, rfl⟩⟩
  have HT := Hid.mk (take_ok g b SZ 72 u5 r4 (by omega))
  have HLEN : Hid (¬ ((txt b 0).toNat % 16 * 4 < 20 ∨ getN (txt b) 2 2 < (txt b 0).toNat % 16 * 4 ∨ b.size < getN (txt b) 2 2)) := Hid.mk (by rw [HH.out, HSZ.out]; omega)
  go_wp2_with (go_at_call 73; refine HT.out.mono ?_; rintro e u6 ⟨rfl, r6, o6⟩; refine Hid.out ?_)
  refine Hid.mk ?_
  have l4 := heap_lt q4
  have q6 := q4.only o6 (by have := heap_lt hg; omega)
  have t6 : Touch (fun q => q = g) w u6 := t4.tr (tou_only o6)
  have hbs : SZ ≤ b.size := by omega
  have hzz : (b.extract 0 SZ).size = SZ := cutP_size b 0 SZ hbs
  have HS1 : Hid (∀ ww, (Instr.sliceAt 9 (.string (b.extract 0 SZ)) (some (.int .i64 10)) (some (.int .i64 12)) none).run Try.prog ww = .ok (.string (b.extract 10 12)) ww) := Hid.mk (fun ww => by
    have := cutLH (b.extract 0 SZ) 10 12 ww (by decide) (by omega)
    rw [cutP_cut b hbs (by omega)] at this
    exact this)
  have HS2 : Hid (∀ ww, (Instr.sliceAt 9 (.string (b.extract 0 SZ)) none (some (.int .i64 10)) none).run Try.prog ww = .ok (.string (b.extract 0 10)) ww) := Hid.mk (fun ww => by
    have := strH (b.extract 0 SZ) 10 ww (by omega)
    rw [cutP_cut b hbs (by omega)] at this
    exact this)
  have HS3 : Hid (∀ ww, (Instr.sliceAt 9 (.string (b.extract 0 SZ)) (some (.int .i64 12)) (some (.int .i64 (H : Int))) none).run Try.prog ww = .ok (.string (b.extract 12 H)) ww) := Hid.mk (fun ww => by
    have := cutLH (b.extract 0 SZ) 12 H ww (by omega) (by omega)
    rw [cutP_cut b hbs (by omega), Nat.zero_add, Nat.zero_add] at this
    exact this)
  have HSU : Hid (∀ ww, Calls Try.prog 52 #[.string (b.extract 0 10), .string (b.extract 12 H)] ww fun e w' => e = .returned (.string (putT (sumT (b.extract 0 10 ++ b.extract 12 H)).toNat 2)) ∧ Below ww.heap.size ww w') := Hid.mk (fun ww => sumOf_run _ _ ww (by rw [cutP_size b 0 10 (by omega)]; decide) (by rw [cutP_size b 12 H (by omega)]; omega))
  have hsb := sumT_b (b.extract 0 10 ++ b.extract 12 H)
  have HPE := Hid.mk (put2_eq (b := b) (n := sumT (b.extract 0 10 ++ b.extract 12 H)) (by omega) hsb.1 (by omega))
  have HSM2 : Hid ((b.extract 0 SZ).size = SZ) := Hid.mk hzz
  clear hsb hzz
  generalize hBB : b.extract 0 SZ = BB at *
  generalize hX1 : b.extract 10 12 = X1 at *
  generalize hX3 : b.extract 12 H = X3 at *
  generalize hX2 : b.extract 0 10 = X2 at *
  generalize hSS : putT (sumT (X2 ++ X3)).toNat 2 = S at *
  have HBB := Hid.mk hBB
  clear hBB hX1
  go_upto_region 5 with fail
  refine wp_region_cut 9 rfl (by kernel_rfl) (any_steps (Below u6.heap.size u6) (fun v v' => Below v.heap.size v v') (fun j vv _ => vv = ([.string BB, .string X1, .string BB, .string X2, .string BB, .int .i64 (H : Int), .string X3, .string S, .bool (decide (X1 = S))] : List Value).getD j undef)
      [37, 38, 39, 40, 41, 42, 43, 44, 45]
      [(5, .string BB), (3, .int .i64 (H : Int))]
      [[], [0], [], [2], [], [], [4, 5], [3, 6], [1, 7]]
      (by kernel_rfl) ⟨rfl, rfl, trivial⟩ (Below.drew (Below.refl _ _)) (fun v v' h hb => h.trans (hb.mono h.size)) (fun _ _ _ _ h _ => h)
      ⟨
      (fun QQ aa ww hS fr kn => ⟨trivial, fun K hK => wp_value (exec_move rfl fr.1) (hK _ _ rfl (Below.refl _ _))⟩),
      (fun QQ aa ww hS fr kn => ⟨trivial, fun K hK => wp_value (exec_slLH (u := .int .i64 10) (u' := .int .i64 12) rfl kn.1 rfl rfl (HS1.out ww)) (hK _ _ rfl (Below.refl _ _))⟩),
      (fun QQ aa ww hS fr kn => ⟨trivial, fun K hK => wp_value (exec_move rfl fr.1) (hK _ _ rfl (Below.refl _ _))⟩),
      (fun QQ aa ww hS fr kn => ⟨trivial, fun K hK => wp_value (exec_slH (u := .int .i64 10) rfl kn.1 rfl (HS2.out ww)) (hK _ _ rfl (Below.refl _ _))⟩),
      (fun QQ aa ww hS fr kn => ⟨trivial, fun K hK => wp_value (exec_move rfl fr.1) (hK _ _ rfl (Below.refl _ _))⟩),
      (fun QQ aa ww hS fr kn => ⟨trivial, fun K hK => wp_value (exec_move rfl fr.2.1) (hK _ _ rfl (Below.refl _ _))⟩),
      (fun QQ aa ww hS fr kn => ⟨trivial, fun K hK => wp_value (exec_slLH (u := .int .i64 12) (u' := .int .i64 (H : Int)) rfl kn.1 rfl kn.2.1 (HS3.out ww)) (hK _ _ rfl (Below.refl _ _))⟩),
      (fun QQ aa ww hS fr kn => ⟨trivial, fun K hK => stepc en_sumOf rfl (args2 kn.1 kn.2.1) (HSU.out ww) (fun w' hb => hK _ _ rfl hb)⟩),
      (fun QQ aa ww hS fr kn => ⟨trivial, fun K hK => wp_value (exec_eqSd (s := X1) (t := S) rfl kn.1 kn.2.1) (hK _ _ rfl (Below.refl _ _))⟩),
      trivial⟩ ?_)
  intro vs u7 hB7 kn
  have e45 : vs 45 = .bool (decide (X1 = S)) := kn 8 (by decide)
  clear kn
  show wpList Try.prog _ _ (_ :: []) _ _
  simp only [putAll, Act.put, List.setIfInBounds_toArray, List.set_cons_zero, List.set_cons_succ, e45]
  clear e45
  have r7 := r6.on hB7
  have q7 := q6.kept hB7
  have t7 := t6.bel hB7 t6.size
  by_cases c5 : X1 = S
  case neg =>
    have HE : Hid (R = .err 73) := Hid.mk (by rw [← HR.out]; exact r4_sum HLEN.out (by rw [HH.out, hX2, hX3]; exact fun e => c5 (HPE.out.2 e)))
    have hd5 : decide (X1 = S) = false := decide_eq_false c5
    go_wp2_with fail
    refine (need_no' 73 _ (by first | exact hd5 | rfl)).mono ?_
    rintro e u8 ⟨rfl, rfl⟩
    exact ⟨rfl, t7, .inl ⟨73, HE.out, rfl⟩⟩
  have HSU2 : Hid (¬ sumT (b.extract 0 10 ++ b.extract 12 ((txt b 0).toNat % 16 * 4)) ≠ (getN (txt b) 10 2 : Int)) := Hid.mk (by rw [HH.out, hX2, hX3]; exact not_not_intro (HPE.out.1 c5))
  have hd5 : decide (X1 = S) = true := decide_eq_true c5
  go_wp2_with (go_at_call 63; refine (need_ok' 73 _ (by first | exact hd5 | rfl)).mono ?_; rintro e u8 ⟨rfl, rfl⟩; refine Hid.out ?_)
  refine Hid.mk ?_
  clear HS1 HS2 HS3 HSU HPE hd5 hSS c5 hX2 hX3
  have hb1 := txt_b b 1
  have hb8 := txt_b b 8
  have hb9 := txt_b b 9
  have hG : getN (txt b) 6 2 < 65536 := by
    have := getN_lt (fun j => txt_b b j) 6 2
    have e : (256 : Nat) ^ 2 = 65536 := rfl
    omega
  have HM6 : Hid (∀ ww, Calls Try.prog 72 #[.string BB, .int .i64 6, .int .i64 2] ww fun e w' => e = .returned (.int .i64 ((getN (txt b) 6 2 : Nat) : Int)) ∧ Below ww.heap.size ww w') := Hid.mk (fun ww => by
    have := number_run BB 6 2 ww (by have := HSM2.out; have := HSM.out; omega) (by decide) (by decide) (by have := HSM2.out; omega)
    rw [← HBB.out, getN_cut b hbs (by omega), Nat.zero_add, HBB.out] at this
    exact this.mono (fun e w2 q => ⟨q.1, by rw [q.2]; exact Below.refl _ _⟩))
  have HM4 : Hid (∀ ww, Calls Try.prog 72 #[.string BB, .int .i64 4, .int .i64 2] ww fun e w' => e = .returned (.int .i64 ((getN (txt b) 4 2 : Nat) : Int)) ∧ Below ww.heap.size ww w') := Hid.mk (fun ww => by
    have := number_run BB 4 2 ww (by have := HSM2.out; have := HSM.out; omega) (by decide) (by decide) (by have := HSM2.out; omega)
    rw [← HBB.out, getN_cut b hbs (by omega), Nat.zero_add, HBB.out] at this
    exact this.mono (fun e w2 q => ⟨q.1, by rw [q.2]; exact Below.refl _ _⟩))
  have HM1 : Hid (∀ ww, Calls Try.prog 72 #[.string BB, .int .i64 1, .int .i64 1] ww fun e w' => e = .returned (.int .i64 (txt b 1)) ∧ Below ww.heap.size ww w') := Hid.mk (fun ww => by
    have := number_run BB 1 1 ww (by have := HSM2.out; have := HSM.out; omega) (by decide) (by decide) (by have := HSM2.out; omega)
    rw [← HBB.out, getN_cut b hbs (by omega), Nat.zero_add, getN_one, Int.toNat_of_nonneg hb1.1, HBB.out] at this
    exact this.mono (fun e w2 q => ⟨q.1, by rw [q.2]; exact Below.refl _ _⟩))
  have HM8 : Hid (∀ ww, Calls Try.prog 72 #[.string BB, .int .i64 8, .int .i64 1] ww fun e w' => e = .returned (.int .i64 (txt b 8)) ∧ Below ww.heap.size ww w') := Hid.mk (fun ww => by
    have := number_run BB 8 1 ww (by have := HSM2.out; have := HSM.out; omega) (by decide) (by decide) (by have := HSM2.out; omega)
    rw [← HBB.out, getN_cut b hbs (by omega), Nat.zero_add, getN_one, Int.toNat_of_nonneg hb8.1, HBB.out] at this
    exact this.mono (fun e w2 q => ⟨q.1, by rw [q.2]; exact Below.refl _ _⟩))
  have HM9 : Hid (∀ ww, Calls Try.prog 72 #[.string BB, .int .i64 9, .int .i64 1] ww fun e w' => e = .returned (.int .i64 (txt b 9)) ∧ Below ww.heap.size ww w') := Hid.mk (fun ww => by
    have := number_run BB 9 1 ww (by have := HSM2.out; have := HSM.out; omega) (by decide) (by decide) (by have := HSM2.out; omega)
    rw [← HBB.out, getN_cut b hbs (by omega), Nat.zero_add, getN_one, Int.toNat_of_nonneg hb9.1, HBB.out] at this
    exact this.mono (fun e w2 q => ⟨q.1, by rw [q.2]; exact Below.refl _ _⟩))
  have HT1 : Hid (∀ ww, (Instr.sliceAt 9 (.string BB) (some (.int .i64 12)) (some (.int .i64 16)) none).run Try.prog ww = .ok (.string (b.extract 12 16)) ww) := Hid.mk (fun ww => by
    have := cutLH BB 12 16 ww (by omega) (by have := HSM2.out; omega)
    rw [← HBB.out, cutP_cut b hbs (by omega), HBB.out, Nat.zero_add, Nat.zero_add] at this
    exact this)
  have HT2 : Hid (∀ ww, (Instr.sliceAt 9 (.string BB) (some (.int .i64 16)) (some (.int .i64 20)) none).run Try.prog ww = .ok (.string (b.extract 16 20)) ww) := Hid.mk (fun ww => by
    have := cutLH BB 16 20 ww (by omega) (by have := HSM2.out; omega)
    rw [← HBB.out, cutP_cut b hbs (by omega), HBB.out, Nat.zero_add, Nat.zero_add] at this
    exact this)
  have HT3 : Hid (∀ ww, (Instr.sliceAt 9 (.string BB) (some (.int .i64 20)) (some (.int .i64 (H : Int))) none).run Try.prog ww = .ok (.string (b.extract 20 H)) ww) := Hid.mk (fun ww => by
    have := cutLH BB 20 H ww (by omega) (by have := HSM2.out; omega)
    rw [← HBB.out, cutP_cut b hbs (by omega), HBB.out, Nat.zero_add, Nat.zero_add] at this
    exact this)
  have HT4 : Hid (∀ ww, (Instr.sliceAt 9 (.string BB) (some (.int .i64 (H : Int))) none none).run Try.prog ww = .ok (.string (b.extract H SZ)) ww) := Hid.mk (fun ww => by
    have := strL BB H ww (by have := HSM2.out; omega)
    rw [HSM2.out, ← HBB.out, cutP_cut b hbs (by omega), HBB.out, Nat.zero_add, Nat.zero_add] at this
    exact this)
  have HA1 : Hid (∀ ww, Calls Try.prog 74 #[.string (b.extract 12 16)] ww fun e w' => e = .returned (.agg (SC 17 (adV false (frB (b.extract 12 16))))) ∧ Below ww.heap.size ww w') := Hid.mk (fun ww => by
    have e : (b.extract 12 16).size = 4 := cutP_size b 12 16 (by omega)
    have := address_run (b.extract 12 16) ww (.inl e)
    rw [e] at this
    exact this)
  have HA2 : Hid (∀ ww, Calls Try.prog 74 #[.string (b.extract 16 20)] ww fun e w' => e = .returned (.agg (SC 17 (adV false (frB (b.extract 16 20))))) ∧ Below ww.heap.size ww w') := Hid.mk (fun ww => by
    have e : (b.extract 16 20).size = 4 := cutP_size b 16 20 (by omega)
    have := address_run (b.extract 16 20) ww (.inl e)
    rw [e] at this
    exact this)
  by_cases c7 : 32768 ≤ getN (txt b) 6 2
  case pos =>
    have HE : Hid (R = .err 74) := Hid.mk (by rw [← HR.out]; exact r4_form HLEN.out HSU2.out c7)
    have hq : getN (txt b) 6 2 &&& 32768 = 32768 := by
      have := and_bit (getN (txt b) 6 2) 15
      rw [show (2 : Nat) ^ 15 = 32768 from rfl] at this
      rw [this]
      omega
    generalize getN (txt b) 6 2 = G6 at *
    go_wp2_with (go_at_call 72; refine (HM6.out _).mono ?_; rintro e u9 ⟨rfl, hB9⟩; refine Hid.out ?_)
    refine Hid.mk ?_
    go_wp2_with (refine wl_value rfl (exec_andI (i := G6) (m := 32768) (q := 32768) rfl (by rfl) (by rfl) hq (by omega) (by decide)) ?_)
    refine (need_no 74 _).mono ?_
    rintro e u10 ⟨rfl, rfl⟩
    exact ⟨rfl, t7.bel hB9 t7.size, .inl ⟨74, HE.out, rfl⟩⟩
  have hq : getN (txt b) 6 2 &&& 32768 = 0 := by
    have := and_bit (getN (txt b) 6 2) 15
    rw [show (2 : Nat) ^ 15 = 32768 from rfl] at this
    rw [this]
    omega
  have hg6 : getN (txt b) 6 2 < 32768 := by omega
  have HOK : Hid (R = .ok (pk4 (frB (b.extract 12 16)) (frB (b.extract 16 20)) (txt b 1) ((getN (txt b) 4 2 : Nat) : Int) (txt b 8) (txt b 9) ((getN (txt b) 6 2 % 8192 * 8 : Nat) : Int) (!decide (((getN (txt b) 6 2 / 8192 % 2 * 8192 : Nat) : Int) = 0)) (!decide (((getN (txt b) 6 2 / 16384 % 2 * 16384 : Nat) : Int) = 0)) (b.extract 20 H) (b.extract H SZ))) := Hid.mk (by
    have e1 : (!decide (((getN (txt b) 6 2 / 8192 % 2 * 8192 : Nat) : Int) = 0)) = decide (getN (txt b) 6 2 / 8192 % 2 = 1) := by
      rcases Nat.mod_two_eq_zero_or_one (getN (txt b) 6 2 / 8192) with e | e <;> rw [e] <;> rfl
    have e2 : (!decide (((getN (txt b) 6 2 / 16384 % 2 * 16384 : Nat) : Int) = 0)) = decide (getN (txt b) 6 2 / 16384 = 1) := by
      have : getN (txt b) 6 2 / 16384 < 2 := by omega
      rcases (show getN (txt b) 6 2 / 16384 = 0 ∨ getN (txt b) 6 2 / 16384 = 1 by omega) with e | e <;> rw [e] <;> rfl
    rw [e1, e2, ← HR.out, ← HH.out, ← HSZ.out]
    unfold rd4
    exact (if_neg HLEN.out).trans ((if_neg HSU2.out).trans (if_neg c7)))
  clear c7 hb1 hb8 hb9 hG
  obtain ⟨Q4, hQ4⟩ : ∃ Q4, pk4 (frB (b.extract 12 16)) (frB (b.extract 16 20)) (txt b 1) ((getN (txt b) 4 2 : Nat) : Int) (txt b 8) (txt b 9) ((getN (txt b) 6 2 % 8192 * 8 : Nat) : Int) (!decide (((getN (txt b) 6 2 / 8192 % 2 * 8192 : Nat) : Int) = 0)) (!decide (((getN (txt b) 6 2 / 16384 % 2 * 16384 : Nat) : Int) = 0)) (b.extract 20 H) (b.extract H SZ) = Q4 := ⟨_, rfl⟩
  rw [hQ4] at HOK
  have HEX : Hid (Q4.exts = []) := Hid.mk (by rw [← hQ4]; rfl)
  have HB4 := Hid.mk hQ4
  clear hQ4
  generalize frB (b.extract 12 16) = F1 at *
  generalize frB (b.extract 16 20) = F2 at *
  generalize b.extract 12 16 = A1 at *
  generalize b.extract 16 20 = A2 at *
  generalize b.extract 20 H = OP at *
  generalize b.extract H SZ = PY at *
  generalize getN (txt b) 6 2 = G6 at *
  generalize getN (txt b) 4 2 = I4 at *
  generalize txt b 1 = C1 at *
  generalize txt b 8 = H8 at *
  generalize txt b 9 = P9 at *
  go_wp2_with (go_at_call 72; refine (HM6.out _).mono ?_; rintro e u9 ⟨rfl, hB9⟩; refine Hid.out ?_)
  refine Hid.mk ?_
  have q9 := q7.kept hB9
  have t9 := t7.bel hB9 t7.size
  go_wp2_with (first | (refine wl_value rfl (exec_andI (i := G6) (m := 32768) (q := 0) rfl (by rfl) (by rfl) hq (by omega) (by decide)) ?_) | (go_at_call 63; refine (need_ok 74 _).mono ?_; rintro e u10 ⟨rfl, rfl⟩; refine Hid.out ?_))
  refine Hid.mk ?_
  go_upto_region 8 with fail
  refine wp_region_cut 30 rfl (by kernel_rfl) (any_steps (Below u10.heap.size u10) (fun v v' => Below v.heap.size v v') (fun j vv _ => vv = ((.string BB :: .string A1 :: .agg (SC 17 (adV false F1)) :: .string BB :: .string A2 :: .agg (SC 17 (adV false F2)) :: .string BB :: .int .i64 C1 :: .string BB :: .int .i64 ((I4 : Nat) : Int) :: .string BB :: .int .i64 H8 :: .string BB :: .int .i64 P9 :: .int .i64 ((G6 : Nat) : Int) :: .int .i64 ((G6 % 8192 : Nat) : Int) :: .int .i64 ((G6 % 8192 * 8 : Nat) : Int) :: .int .i64 ((G6 : Nat) : Int) :: .int .i64 ((G6 / 8192 % 2 * 8192 : Nat) : Int) :: .bool (!decide (((G6 / 8192 % 2 * 8192 : Nat) : Int) = 0)) :: .int .i64 ((G6 : Nat) : Int) :: .int .i64 ((G6 / 16384 % 2 * 16384 : Nat) : Int) :: .bool (!decide (((G6 / 16384 % 2 * 16384 : Nat) : Int) = 0)) :: .string BB :: .int .i64 (H : Int) :: .string OP :: .string BB :: .int .i64 (H : Int) :: .string PY :: .agg (SC 46 (pkV Q4 (.slice none 0 0))) :: []) : List Value).getD j undef)
      (53 :: 54 :: 55 :: 56 :: 57 :: 58 :: 59 :: 60 :: 61 :: 62 :: 63 :: 64 :: 65 :: 66 :: 67 :: 68 :: 69 :: 70 :: 71 :: 72 :: 73 :: 74 :: 75 :: 76 :: 77 :: 78 :: 79 :: 80 :: 81 :: 82 :: [])
      [(5, .string BB), (6, .int .i64 ((G6 : Nat) : Int)), (3, .int .i64 (H : Int))]
      ([] :: [0] :: [1] :: [] :: [3] :: [4] :: [] :: [6] :: [] :: [8] :: [] :: [10] :: [] :: [12] :: [] :: [14] :: [15] :: [] :: [17] :: [18] :: [] :: [20] :: [21] :: [] :: [] :: [23, 24] :: [] :: [] :: [26, 27] :: [2, 5, 7, 9, 11, 13, 16, 19, 22, 25, 28] :: [])
      (by kernel_rfl) ⟨rfl, rfl, rfl, trivial⟩ (Below.drew (Below.refl _ _)) (fun v v' h hb => h.trans (hb.mono h.size)) (fun _ _ _ _ h _ => h)
      ⟨
      (fun QQ aa ww hS fr kn => ⟨trivial, fun K hK => wp_value (exec_move rfl fr.1) (hK _ _ rfl (Below.refl _ _))⟩),
      (fun QQ aa ww hS fr kn => ⟨trivial, fun K hK => wp_value (exec_slLH (u := .int .i64 12) (u' := .int .i64 16) rfl kn.1 rfl rfl (HT1.out ww)) (hK _ _ rfl (Below.refl _ _))⟩),
      (fun QQ aa ww hS fr kn => ⟨trivial, fun K hK => stepc en_address rfl (args1 kn.1) (HA1.out ww) (fun w' hb => hK _ _ rfl hb)⟩),
      (fun QQ aa ww hS fr kn => ⟨trivial, fun K hK => wp_value (exec_move rfl fr.1) (hK _ _ rfl (Below.refl _ _))⟩),
      (fun QQ aa ww hS fr kn => ⟨trivial, fun K hK => wp_value (exec_slLH (u := .int .i64 16) (u' := .int .i64 20) rfl kn.1 rfl rfl (HT2.out ww)) (hK _ _ rfl (Below.refl _ _))⟩),
      (fun QQ aa ww hS fr kn => ⟨trivial, fun K hK => stepc en_address rfl (args1 kn.1) (HA2.out ww) (fun w' hb => hK _ _ rfl hb)⟩),
      (fun QQ aa ww hS fr kn => ⟨trivial, fun K hK => wp_value (exec_move rfl fr.1) (hK _ _ rfl (Below.refl _ _))⟩),
      (fun QQ aa ww hS fr kn => ⟨trivial, fun K hK => stepc en_number rfl (args3 kn.1 rfl rfl) (HM1.out ww) (fun w' hb => hK _ _ rfl hb)⟩),
      (fun QQ aa ww hS fr kn => ⟨trivial, fun K hK => wp_value (exec_move rfl fr.1) (hK _ _ rfl (Below.refl _ _))⟩),
      (fun QQ aa ww hS fr kn => ⟨trivial, fun K hK => stepc en_number rfl (args3 kn.1 rfl rfl) (HM4.out ww) (fun w' hb => hK _ _ rfl hb)⟩),
      (fun QQ aa ww hS fr kn => ⟨trivial, fun K hK => wp_value (exec_move rfl fr.1) (hK _ _ rfl (Below.refl _ _))⟩),
      (fun QQ aa ww hS fr kn => ⟨trivial, fun K hK => stepc en_number rfl (args3 kn.1 rfl rfl) (HM8.out ww) (fun w' hb => hK _ _ rfl hb)⟩),
      (fun QQ aa ww hS fr kn => ⟨trivial, fun K hK => wp_value (exec_move rfl fr.1) (hK _ _ rfl (Below.refl _ _))⟩),
      (fun QQ aa ww hS fr kn => ⟨trivial, fun K hK => stepc en_number rfl (args3 kn.1 rfl rfl) (HM9.out ww) (fun w' hb => hK _ _ rfl hb)⟩),
      (fun QQ aa ww hS fr kn => ⟨trivial, fun K hK => wp_value (exec_move rfl fr.2.1) (hK _ _ rfl (Below.refl _ _))⟩),
      (fun QQ aa ww hS fr kn => ⟨trivial, fun K hK => wp_value (exec_remW (i := G6) (m := 8192) rfl kn.1 rfl rfl (by decide)) (hK _ _ rfl (Below.refl _ _))⟩),
      (fun QQ aa ww hS fr kn => ⟨trivial, fun K hK => wp_value (exec_mulW (i := G6 % 8192) (m := 8) rfl kn.1 rfl rfl (by omega)) (hK _ _ rfl (Below.refl _ _))⟩),
      (fun QQ aa ww hS fr kn => ⟨trivial, fun K hK => wp_value (exec_move rfl fr.2.1) (hK _ _ rfl (Below.refl _ _))⟩),
      (fun QQ aa ww hS fr kn => ⟨trivial, fun K hK => wp_value (exec_andI (i := G6) (m := 8192) (q := G6 / 8192 % 2 * 8192) rfl kn.1 rfl (and_bit G6 13) (by omega) (by decide)) (hK _ _ rfl (Below.refl _ _))⟩),
      (fun QQ aa ww hS fr kn => ⟨trivial, fun K hK => wp_value (cmp_ne (m := ((G6 / 8192 % 2 * 8192 : Nat) : Int)) (n := 0) rfl kn.1 rfl) (hK _ _ rfl (Below.refl _ _))⟩),
      (fun QQ aa ww hS fr kn => ⟨trivial, fun K hK => wp_value (exec_move rfl fr.2.1) (hK _ _ rfl (Below.refl _ _))⟩),
      (fun QQ aa ww hS fr kn => ⟨trivial, fun K hK => wp_value (exec_andI (i := G6) (m := 16384) (q := G6 / 16384 % 2 * 16384) rfl kn.1 rfl (and_bit G6 14) (by omega) (by decide)) (hK _ _ rfl (Below.refl _ _))⟩),
      (fun QQ aa ww hS fr kn => ⟨trivial, fun K hK => wp_value (cmp_ne (m := ((G6 / 16384 % 2 * 16384 : Nat) : Int)) (n := 0) rfl kn.1 rfl) (hK _ _ rfl (Below.refl _ _))⟩),
      (fun QQ aa ww hS fr kn => ⟨trivial, fun K hK => wp_value (exec_move rfl fr.1) (hK _ _ rfl (Below.refl _ _))⟩),
      (fun QQ aa ww hS fr kn => ⟨trivial, fun K hK => wp_value (exec_move rfl fr.2.2.1) (hK _ _ rfl (Below.refl _ _))⟩),
      (fun QQ aa ww hS fr kn => ⟨trivial, fun K hK => wp_value (exec_slLH (u := .int .i64 20) (u' := .int .i64 (H : Int)) rfl kn.1 rfl kn.2.1 (HT3.out ww)) (hK _ _ rfl (Below.refl _ _))⟩),
      (fun QQ aa ww hS fr kn => ⟨trivial, fun K hK => wp_value (exec_move rfl fr.1) (hK _ _ rfl (Below.refl _ _))⟩),
      (fun QQ aa ww hS fr kn => ⟨trivial, fun K hK => wp_value (exec_move rfl fr.2.2.1) (hK _ _ rfl (Below.refl _ _))⟩),
      (fun QQ aa ww hS fr kn => ⟨trivial, fun K hK => wp_value (exec_slL (u := .int .i64 (H : Int)) rfl kn.1 kn.2.1 (HT4.out ww)) (hK _ _ rfl (Below.refl _ _))⟩),
      (fun QQ aa ww hS fr kn => ⟨trivial, fun K hK => wp_value (exec_bd4 rfl kn.1 kn.2.1 kn.2.2.1 kn.2.2.2.1 kn.2.2.2.2.1 kn.2.2.2.2.2.1 kn.2.2.2.2.2.2.1 kn.2.2.2.2.2.2.2.1 kn.2.2.2.2.2.2.2.2.1 kn.2.2.2.2.2.2.2.2.2.1 kn.2.2.2.2.2.2.2.2.2.2.1 HB4.out) (hK _ _ rfl (Below.refl _ _))⟩),
      trivial⟩ ?_)
  intro vs u11 hB11 kn
  have e82 : vs 82 = .agg (SC 46 (pkV Q4 (.slice none 0 0))) := kn 29 (by decide)
  clear kn
  show wpList Try.prog _ _ (_ :: []) _ _
  simp only [putAll, Act.put, List.setIfInBounds_toArray, List.set_cons_zero, List.set_cons_succ, e82]
  clear e82
  have q11 := q9.kept hB11
  have t11 := t9.bel hB11 t9.size
  go_wp2_with (refine st_stO rfl rfl isPk (fun i => pkV_one rfl i) q11 (by rfl) (by rfl) ?_; intro u12 q12 o12; refine Hid.out ?_)
  refine Hid.mk ?_
  go_wp2_with fail
  exact bodyPost_ret (res_st rfl isPk q12 (by rfl)) rfl ⟨touch_new t11 o12 hg1, .inr ⟨Q4, .slice none 0 0, fun _ _ => undef, HOK.out, rfl, by rw [HEX.out]; exact World.ownsRow_nil _ _ _ _, fun j x hj => by rw [HEX.out] at hj; simp at hj⟩⟩
theorem en_p4 (args : Array Value) (w : World) : (callFunc 64 args).run Try.prog w = .ok (.enter 64 args) w := by kernel_rfl
end Go.Proofs.Ytdlepeogmjmleaa
/-
  Own text. Package ip: how reading that is given up is told.
-/
namespace Go.Proofs.Ytdlepeogmjmleaa
open Go.RowKit Go.Proofs
set_option maxRecDepth 100000
theorem catch_up (p : Addr) (x y : Int) (w : World) (hc : w.cell? p = some (.int .i64 y)) (hz : w.frozen? p = false) :
    CallsD Try.prog 62 #[.pointer (some p)] (.panicking [{ v := .iface 31 (.int .i64 x), recovered := false }]) w fun e u' w' =>
      e = .returned (.tuple #[]) ∧ u' = .panicking [{ v := .iface 31 (.int .i64 x), recovered := true }] ∧ w' = w.setCell p (.int .i64 x) := by
  have hta : ∀ u, (Instr.typeAssert (.iface 31 (.int .i64 x)) 20 31 false).run Try.prog u = .ok (.int .i64 x) u := fun u => by kernel_rfl
  refine callsD_of_wpS Try.func62 rfl fun c₀ cs hu => ?_
  apply wpS_seq
  apply wpS_region
  simp [wpOpsS, go_sem, recoverD, hu, Try.ntmps62, Exit.thenS]
  apply wpS_seq
  apply wpS_region
  simp [wpOpsS, go_sem, Exit.thenS]
  refine wpS_cond (t := true) (by simp [Act.eval, Array.replicate]) ?_
  simp only [if_true]
  apply wpS_region
  simp [wpOpsS, go_sem, hta, hc, hz, bodyPostS, results, Try.results62]
theorem catch_idle (p : Addr) (w : World) :
    CallsD Try.prog 62 #[.pointer (some p)] .returning w fun e u' w' => e = .returned (.tuple #[]) ∧ u' = .returning ∧ w' = w := by
  refine callsD_of_wpS Try.func62 rfl fun c₀ cs hu => ?_
  apply wpS_seq
  apply wpS_region
  simp [wpOpsS, go_sem, recoverD, hu, Try.ntmps62, Exit.thenS]
  apply wpS_seq
  apply wpS_region
  simp [wpOpsS, go_sem, Exit.thenS]
  refine wpS_cond (t := false) (by simp [Act.eval, Array.replicate]) ?_
  simp only [Bool.false_eq_true, if_false]
  refine wpS_of_wp (wp_skip ?_)
  cases c₀
  simp_all [bodyPostS, results, Try.results62]
/-- Steps that return, or are given up by an error: the call tells which. -/
theorem attempt_run (k : FuncId) (cap : Array Value) (T : Nat → Prop) (R : Int → World → Prop) (w : World) (hk : ∀ args u, (callFunc k args).run Try.prog u = .ok (.enter k args) u) (hT : ∀ x, T x → x < w.heap.size)
    (hc : ∀ u, Below w.heap.size w u → w.heap.size < u.heap.size → Calls Try.prog k cap u fun e w' => Touch T u w' ∧ ∃ x, ((e = .returned (.tuple #[]) ∧ x = 0) ∨ e = gup x) ∧ R x w') :
    Calls Try.prog 41 #[.func (.func k) #[] cap] w fun e w' => ∃ x v, e = .returned (.int .i64 x) ∧ R x v ∧ Touch T w w' ∧ Only w.heap.size v w' := by
  have hmf : ∀ (fn : Fn) (first cap : Array Value) (w : World), (Instr.makeFunc fn first cap).run Try.prog w = .ok (.func fn first cap) w := fun _ _ _ _ => rfl
  have hB : Below w.heap.size w (w.alloc (.cells #[.int .i64 0] 31)) := (Below.refl _ w).alloc (Nat.le_refl _) _
  have hcell : (w.alloc (.cells #[.int .i64 0] 31)).heap[w.heap.size]? = some (.cells #[.int .i64 0] 31 (0, 0)) := heap_alloc_new w _
  go_enter_defers Try.func41, Try.ntmps41
  go_wp2_with fail
  refine (hc _ hB (by simp)).mono ?_
  rintro e v ⟨ht, x, hx, hR⟩
  have hrow : v.heap[w.heap.size]? = some (.cells #[.int .i64 0] 31 (0, 0)) := (ht.block w.heap.size (by simp) (fun h => by have := hT _ h; omega)).trans hcell
  have c0 : v.cell? ⟨w.heap.size, 0, none⟩ = some (.int .i64 0) := cell_of_row v _ 0 _ _ _ hrow
  have z0 : v.frozen? ⟨w.heap.size, 0, none⟩ = false := frozen_of_row v _ 0 _ _ hrow
  have fin : ∀ u, Only w.heap.size v u → Touch T w u ∧ Only w.heap.size v u := fun u o => ⟨⟨o.os.trans (ht.os.trans hB.os), o.tape.trans (ht.tape.trans hB.tape), o.output.trans (ht.output.trans hB.output), by have h1 := ht.size; have h2 := hB.size; have h3 := o.size; omega,
    fun k hk hn => (o.block k (by omega)).trans ((ht.block k (by have := hB.size; omega) hn).trans (hB.block k hk))⟩, o⟩
  clear hc hrow hcell hB ht hT hk
  rcases hx with ⟨rfl, rfl⟩ | rfl
  · go_wp2_with fail
    refine leaves_cons (f := 62) (args := #[.pointer (some ⟨w.heap.size, 0, none⟩)]) (by simp) (by simp [go_sem]) ?_
    refine (catch_idle ⟨w.heap.size, 0, none⟩ _).mono ?_
    rintro e u' w'' ⟨rfl, rfl, rfl⟩
    have c1 : (v.setCell ⟨w.heap.size, 0, none⟩ (.int .i64 0)).cell? ⟨w.heap.size, 0, none⟩ = some (.int .i64 0) := by simp [go_sem, c0]
    refine ⟨.int .i64 0, by simp [results, Try.results41, go_sem, c1], 0, v, rfl, hR, (fin _ only_set).1, (fin _ only_set).2⟩
  · refine leaves_cons (f := 62) (args := #[.pointer (some ⟨w.heap.size, 0, none⟩)]) (by simp) (by simp [go_sem]) ?_
    refine (catch_up ⟨w.heap.size, 0, none⟩ x 0 _ c0 z0).mono ?_
    rintro e u' w'' ⟨rfl, rfl, rfl⟩
    have c1 : (v.setCell ⟨w.heap.size, 0, none⟩ (.int .i64 x)).cell? ⟨w.heap.size, 0, none⟩ = some (.int .i64 x) := by simp [go_sem, c0]
    refine ⟨.int .i64 x, by simp [results, Try.results41, go_sem, c1], x, v, rfl, hR, (fin _ only_set).1, (fin _ only_set).2⟩
end Go.Proofs.Ytdlepeogmjmleaa
/-
  Own text. The program's read: bytes as a packet, or an error.
-/
namespace Go.Proofs.Ytdlepeogmjmleaa
open Go.RowKit Go.Proofs
set_option maxRecDepth 100000
theorem isRd : IsSt 78 1 := ⟨_, Try.underlying78, rfl, by kernel_rfl⟩
theorem run_bdR (b : ByteArray) (w : World) : (Instr.build 78 #[(0, .string b)]).run Try.prog w = .ok (.agg (SC 1 (fun _ => .string b))) w := by kernel_rfl
theorem exec_bdR {a : Act} {o : Oper} {w : World} {x : Operand} (ho : o.op = .build 78 #[(0, x)]) {b : ByteArray} (hx : a.eval x = .string b) : (execOp a.eval o).run Try.prog w = .ok (.value (.agg (SC 1 (fun _ => .string b)))) w := by
  unfold execOp
  simp only [ho, List.map_toArray, List.map_cons, List.map_nil, hx, Sem.run_bind, run_bdR, Result.andThen_ok, Sem.run_pure]
theorem exec_shr4 {a : Act} {o : Oper} {w : World} {x y : Operand} {t : TypeId} (ho : o.op = .binOp .shr 5 x y t) {i q : Nat} (hx : a.eval x = .int .u8 (i : Int)) (hy : a.eval y = .int .u64 4) (hq : i / 16 = q) : (execOp a.eval o).run Try.prog w = .ok (.value (.int .u8 (q : Int))) w := by
  subst hq
  exact exec_bin2 ho hx hy rfl (by simp [go_sem])
/-- How reading ends. -/
def REnd (w : World) (R : Rd) (e : Ending) (w' : World) : Prop :=
  Below w.heap.size w w' ∧ ((∃ x, R = .err x ∧ e = gup x) ∨ ∃ Q v Z, R = .ok Q ∧ e = .returned (.agg (SC 46 (pkV Q v))) ∧ w'.ownsRow w.heap.size 36 2 v Q.exts.length (rX 2 Z Q.exts.length) ∧ (∀ j x, Q.exts[j]? = some x → ∀ f, f < 2 → Z j f = exV x f))
set_option maxHeartbeats 4000000 in
theorem read_run (b : ByteArray) (w : World) (hsm : b.size < 4611686018427387904) : Calls Try.prog 43 #[.string b] w fun e w' => REnd w (rdP b) e w' := by
  obtain ⟨R, hR⟩ : ∃ R, rdP b = R := ⟨_, rfl⟩
  rw [hR]
  have HR := Hid.mk hR
  have HSM := Hid.mk hsm
  clear hR hsm
  by_cases h0 : b.size = 0
  · have HE : Hid (R = .err 70) := Hid.mk (by rw [← HR.out]; unfold rdP; rw [if_pos h0])
    have hb : decide (b = ByteArray.empty) = true := decide_eq_true (txt_ext (by rw [h0]; rfl) (fun j hj => by omega))
    go_enter Try.func43, Try.ntmps43
    go_wp2_with (refine wl_alO rfl rfl zeroPk ?_; intro g1 u2 hg1 q1 hB2; refine Hid.out ?_)
    refine Hid.mk ?_
    go_wp2_with (refine wl_value rfl (cmp_neS (s := b) (t := ByteArray.empty) rfl (by rfl) (by rfl)) ?_)
    refine (need_no' 70 _ (by first | rfl | rw [hb]; rfl)).mono ?_
    rintro e u3 ⟨rfl, rfl⟩
    exact ⟨rfl, hB2, .inl ⟨70, HE.out, rfl⟩⟩
  have HB : Hid (decide (b = ByteArray.empty) = false) := Hid.mk (decide_eq_false (fun e => h0 (by rw [e]; rfl)))
  obtain ⟨v0, hv0⟩ : ∃ v0 : Nat, (txt b 0).toNat = v0 := ⟨_, rfl⟩
  have hb0 := txt_b b 0
  have HX0 : Hid (txt b 0 = (v0 : Int)) := Hid.mk (by omega)
  have HZ : Hid (0 < b.size) := Hid.mk (by omega)
  have hv : v0 < 256 := by omega
  obtain ⟨V, hV⟩ : ∃ V : Nat, v0 / 16 = V := ⟨_, rfl⟩
  have HVV := Hid.mk hV
  clear hV
  go_enter Try.func43, Try.ntmps43
  go_wp2_with (refine wl_alO rfl rfl zeroPk ?_; intro g1 u2 hg1 q1 hB2; refine Hid.out ?_)
  refine Hid.mk ?_
  go_wp2_with (first | (refine wl_value rfl (cmp_neS (s := b) (t := ByteArray.empty) rfl (by rfl) (by rfl)) ?_) | (go_at_call 63; refine (need_ok' 70 _ (by first | rfl | rw [HB.out]; rfl)).mono ?_; rintro e u3 ⟨rfl, rfl⟩; refine Hid.out ?_))
  refine Hid.mk ?_
  go_wp2_with (first | (refine wl_value rfl (exec_bdR rfl (by rfl)) ?_) | (refine wl_boxO (V := fun _ => .string b) rfl rfl isRd (by rfl) ?_; intro g u4 hg q4 hB4; refine Hid.out ?_))
  refine Hid.mk ?_
  have r4 : RdAt u4 g b := q4
  have q1b := q1.kept hB4
  have hBa := hB2.trans (hB4.mono hB2.size)
  go_wp2_with (first | (refine wl_value rfl (exec_ixv (j := 0) rfl (by rfl) (by rfl) HZ.out HX0.out) ?_) | (refine wl_value rfl (exec_shr4 (i := v0) (q := V) rfl (by rfl) (by rfl) HVV.out) ?_; refine Hid.out ?_))
  refine Hid.mk ?_
  have HT : ∀ z, Touch (fun q => q = g) u4 z → Below w.heap.size w z := fun z t => ⟨t.os.trans hBa.os, t.tape.trans hBa.tape, t.output.trans hBa.output, Nat.le_trans hBa.size t.size, fun k hk => (t.block k (Nat.lt_of_lt_of_le hk hBa.size) (by have := hB2.size; omega)).trans (hBa.block k hk)⟩
  replace HT := Hid.mk HT
  have l1 := heap_lt q1
  have HNE := Hid.mk h0
  have HV0 := Hid.mk hv0
  clear hv0 hb0 h0 q4 q1 hB4 hB2
  by_cases c4 : V = 4
  · subst c4
    by_cases h20 : b.size < 20
    · have HE : Hid (R = .err 70) := Hid.mk (by
        rw [← HR.out]
        unfold rdP
        rw [if_neg HNE.out, HV0.out, HVV.out, if_neg (by omega), if_pos (.inl h20)])
      have HC := Hid.mk (p4_short g b u4 r4 h20)
      go_wp2_with fail
      refine HC.out.mono ?_
      rintro e u5 ⟨rfl, t5⟩
      exact ⟨rfl, HT.out _ t5, .inl ⟨70, HE.out, rfl⟩⟩
    · have HE : Hid (rd4 b = R) := Hid.mk (by
        rw [← HR.out]
        unfold rdP
        rw [if_neg HNE.out, HV0.out, HVV.out, if_neg (by omega), if_neg (by omega), if_pos rfl])
      have HC := Hid.mk (p4_run g b u4 r4 HSM.out (by omega) R HE.out)
      go_wp2_with fail
      refine HC.out.mono ?_
      rintro e u5 ⟨t5, ⟨x, hx, rfl⟩ | ⟨Q, v, Z, hQ, rfl, ow, hZ⟩⟩
      · exact ⟨rfl, HT.out _ t5, .inl ⟨x, hx, rfl⟩⟩
      have q5 : SAt u5 g1 _ _ _ := (t5.block g1 (by have := hBa.size; have := heap_lt q1b; omega) (by omega)).trans q1b
      have HQ := Hid.mk hQ
      have HOW := Hid.mk ow
      have HZZ := Hid.mk hZ
      have hon : v.oneCell' = true := by
        obtain ⟨_, _, e, _⟩ := ownM_shape ow
        rw [e]
        rfl
      have l5 := heap_lt q1b
      have hs5 := hBa.size
      clear hQ ow hZ
      go_wp2_with (refine st_stO rfl rfl isPk (fun i => pkV_one hon i) q5 (by rfl) (by rfl) ?_; intro u6 q6 o6; refine Hid.out ?_)
      refine Hid.mk ?_
      go_wp2_with fail
      exact bodyPost_ret (res_st rfl isPk q6 (by rfl)) rfl ⟨(HT.out _ t5).trans (o6.below hg1), .inr ⟨Q, v, Z, HQ.out, rfl, ownM_mono (ownM_block HOW.out (fun q hq => o6.block q (by have := ownM_base HOW.out q hq; omega))) hs5, HZZ.out⟩⟩
  · have c4' : ((V : Int) == 4) = false := beq_false_of_ne (by omega)
    by_cases c6 : V = 6
    · subst c6
      by_cases h20 : b.size < 40
      · have HE : Hid (R = .err 70) := Hid.mk (by
          rw [← HR.out]
          unfold rdP
          rw [if_neg HNE.out, HV0.out, HVV.out, if_neg (by omega), if_pos (by omega)])
        have HC := Hid.mk (p6_short g b u4 r4 h20)
        go_wp2_with fail
        refine HC.out.mono ?_
        rintro e u5 ⟨rfl, t5⟩
        exact ⟨rfl, HT.out _ t5, .inl ⟨70, HE.out, rfl⟩⟩
      · have HE : Hid ((if b.size < 40 + getN (txt b) 4 2 then .err 72 else rdEx (h6 b) 5 [] (txt b 6) (b.extract 40 (40 + getN (txt b) 4 2))) = R) := Hid.mk (by
          have e := HR.out
          unfold rdP at e
          rw [if_neg HNE.out, HV0.out, HVV.out, if_neg (by omega), if_neg (by omega), if_neg (by decide)] at e
          exact e)
        have HC := Hid.mk (p6_run g b u4 r4 HSM.out (by omega) R HE.out)
        go_wp2_with fail
        refine HC.out.mono ?_
        rintro e u5 ⟨t5, ⟨x, hx, rfl⟩ | ⟨Q, v, Z, hQ, rfl, ow, hZ⟩⟩
        · exact ⟨rfl, HT.out _ t5, .inl ⟨x, hx, rfl⟩⟩
        have q5 : SAt u5 g1 _ _ _ := (t5.block g1 (by have := hBa.size; have := heap_lt q1b; omega) (by omega)).trans q1b
        have HQ := Hid.mk hQ
        have HOW := Hid.mk ow
        have HZZ := Hid.mk hZ
        have hon : v.oneCell' = true := by
          obtain ⟨_, _, e, _⟩ := ownM_shape ow
          rw [e]
          rfl
        have l5 := heap_lt q1b
        have hs5 := hBa.size
        clear hQ ow hZ
        go_wp2_with (refine st_stO rfl rfl isPk (fun i => pkV_one hon i) q5 (by rfl) (by rfl) ?_; intro u6 q6 o6; refine Hid.out ?_)
        refine Hid.mk ?_
        go_wp2_with fail
        exact bodyPost_ret (res_st rfl isPk q6 (by rfl)) rfl ⟨(HT.out _ t5).trans (o6.below hg1), .inr ⟨Q, v, Z, HQ.out, rfl, ownM_mono (ownM_block HOW.out (fun q hq => o6.block q (by have := ownM_base HOW.out q hq; omega))) hs5, HZZ.out⟩⟩
    · have c6' : ((V : Int) == 6) = false := beq_false_of_ne (by omega)
      have HE : Hid (R = .err 71) := Hid.mk (by
        rw [← HR.out]
        unfold rdP
        rw [if_neg HNE.out, HV0.out, HVV.out, if_pos ⟨c4, c6⟩])
      go_wp2_with fail
      exact ⟨rfl, HT.out _ (Touch.refl _ _), .inl ⟨71, HE.out, rfl⟩⟩
end Go.Proofs.Ytdlepeogmjmleaa
/-
  Own text. Parse of the program.
-/
namespace Go.Proofs.Ytdlepeogmjmleaa
open Go.RowKit Go.Proofs
set_option maxRecDepth 100000
/-- What Parse$1 leaves in the packet's block. -/
def PLeft (w0 : Nat) (gp : Nat) (R : Rd) (x : Int) (w' : World) : Prop :=
  (R = .err x ∧ SAt w' gp 27 46 (pkV zeroP (.slice none 0 0))) ∨ ∃ Q v Z, R = .ok Q ∧ x = 0 ∧ SAt w' gp 27 46 (pkV Q v) ∧ w'.ownsRow w0 36 2 v Q.exts.length (rX 2 Z Q.exts.length) ∧ (∀ j x, Q.exts[j]? = some x → ∀ f, f < 2 → Z j f = exV x f)
theorem parse1_run (gb gp : Nat) (b : ByteArray) (w : World) (hb : w.cell? ⟨gb, 0, none⟩ = some (.string b)) (hp : SAt w gp 27 46 (pkV zeroP (.slice none 0 0))) (hsm : b.size < 4611686018427387904) :
    Calls Try.prog 42 #[.pointer (some ⟨gb, 0, none⟩), .pointer (some ⟨gp, 0, none⟩)] w fun e w' => Touch (fun k => k = gp) w w' ∧ ∃ x, ((e = .returned (.tuple #[]) ∧ x = 0) ∨ e = gup x) ∧ PLeft w.heap.size gp (rdP b) x w' := by
  have cb := ldPs hb
  have HRD := Hid.mk (read_run b w hsm)
  generalize rdP b = R at *
  go_enter Try.func42, Try.ntmps42
  go_wp2_with (refine wl_value rfl (exec_ld rfl (by rfl) cb) ?_)
  refine HRD.out.mono ?_
  rintro e u2 ⟨hB2, ⟨x, hx, rfl⟩ | ⟨Q, v, Z, hQ, rfl, ow, hZ⟩⟩
  · exact ⟨rfl, tou_bel hB2, x, .inr rfl, .inl ⟨hx, hp.kept hB2⟩⟩
  have HQ := Hid.mk hQ
  have HOW := Hid.mk ow
  have HZZ := Hid.mk hZ
  have hon : v.oneCell' = true := by
    obtain ⟨_, _, e, _⟩ := ownM_shape ow
    rw [e]
    rfl
  have p2 := hp.kept hB2
  have l := heap_lt hp
  clear hQ ow hZ
  go_wp2_with (refine st_stO rfl rfl isPk (fun i => pkV_one hon i) p2 (by rfl) (by rfl) ?_; intro u3 q3 o3; refine Hid.out ?_)
  refine Hid.mk ?_
  have tf : Touch (fun k => k = gp) w u3 := (tou_bel hB2).tr (tou_only o3)
  have own := ownM_block HOW.out (fun q hq => o3.block q (by have := ownM_base HOW.out q hq; omega))
  go_wp2_with fail
  exact bodyPost_end (results_none rfl _ _ _) rfl ⟨tf, 0, .inl ⟨rfl, rfl⟩, .inr ⟨Q, v, Z, HQ.out, rfl, q3, own, HZZ.out⟩⟩
theorem en_P1 (args : Array Value) (u : World) : (callFunc 42 args).run Try.prog u = .ok (.enter 42 args) u := by kernel_rfl
theorem Parse_run (b : ByteArray) (w : World) (hsm : b.size < 4611686018427387904) : Calls Try.prog 18 #[.string b] w fun e w' => Below w.heap.size w w' ∧ ∃ Q v x, e = .returned (.tuple #[.agg (SC 46 (pkV Q v)), .int .i64 x]) ∧ ((rdP b = .err x ∧ Q = zeroP ∧ v = .slice none 0 0) ∨ ∃ Z, rdP b = .ok Q ∧ x = 0 ∧ w'.ownsRow w.heap.size 36 2 v Q.exts.length (rX 2 Z Q.exts.length) ∧ (∀ j x, Q.exts[j]? = some x → ∀ f, f < 2 → Z j f = exV x f)) := by
  have hmf : ∀ (fn : Fn) (first cap : Array Value) (w : World), (Instr.makeFunc fn first cap).run Try.prog w = .ok (.func fn first cap) w := fun _ _ _ _ => rfl
  have hc0 : (w.alloc (.cells #[.string b] 9)).heap[w.heap.size]? = some (.cells #[.string b] 9 (0, 0)) := heap_alloc_new w _
  have hB0 : Below w.heap.size w (w.alloc (.cells #[.string b] 9)) := (Below.refl _ w).alloc (Nat.le_refl _) _
  go_enter Try.func18, Try.ntmps18
  go_wp2_with (refine wl_alO rfl rfl zeroPk ?_; intro g2 u2 hg2 q2 hB2; refine Hid.out ?_)
  refine Hid.mk ?_
  have s0 := hB0.size
  have hbx := heap_lt hc0
  generalize (w.alloc (.cells #[.string b] 9)) = w1 at *
  have hc2 := bheap hB2 hc0 hbx
  have hBa := hB0.trans (hB2.mono s0)
  have s2 := hB2.size
  go_wp2_with (refine wl_alO rfl rfl zeroPk ?_; intro g4 u4 hg4 q4 hB4; refine Hid.out ?_)
  refine Hid.mk ?_
  have hc4 := bheap hB4 hc2 (heap_lt hc2)
  have q2b := q2.kept hB4
  have hBb := hBa.trans (hB4.mono hBa.size)
  have l4 := heap_lt q4
  have lc := heap_lt hc4
  have HAT := Hid.mk (attempt_run 42 #[.pointer (some ⟨w.heap.size, 0, none⟩), .pointer (some ⟨g4, 0, none⟩)] (fun k => k = g4) (PLeft (u4.heap.size + 1) g4 (rdP b)) u4 en_P1 (fun x e => by omega) (fun u hb hlt => (parse1_run w.heap.size g4 b u (by rw [World.cell?_of_block (w := u4) (hb.block _ lc)]; exact (one_cell hc4).1) (q4.kept hb) hsm).mono (fun e w2 q => ⟨q.1, by
    obtain ⟨_, x, h1, h2⟩ := q
    refine ⟨x, h1, ?_⟩
    rcases h2 with h2 | ⟨Q, v, Z, k1, k2, k3, k4, k5⟩
    · exact .inl h2
    · exact .inr ⟨Q, v, Z, k1, k2, k3, ownM_mono k4 hlt, k5⟩⟩)))
  go_wp2_with fail
  refine HAT.out.mono ?_
  rintro e u5 ⟨x, v5, rfl, hL, t5, o5⟩
  have q2c : SAt u5 g2 _ _ _ := (t5.block g2 (heap_lt q2b) (by have := heap_lt q2; omega)).trans q2b
  have hBc : Below w.heap.size w u5 := ⟨t5.os.trans hBb.os, t5.tape.trans hBb.tape, t5.output.trans hBb.output, Nat.le_trans hBb.size t5.size, fun k hk => (t5.block k (Nat.lt_of_lt_of_le hk hBb.size) (by omega)).trans (hBb.block k hk)⟩
  obtain ⟨Q, v, p5, hon, HF⟩ : ∃ Q v, SAt u5 g4 27 46 (pkV Q v) ∧ v.oneCell' = true ∧ Hid ((rdP b = .err x ∧ Q = zeroP ∧ v = .slice none 0 0) ∨ ∃ Z, rdP b = .ok Q ∧ x = 0 ∧ u5.ownsRow (u4.heap.size + 1) 36 2 v Q.exts.length (rX 2 Z Q.exts.length) ∧ (∀ j x, Q.exts[j]? = some x → ∀ f, f < 2 → Z j f = exV x f)) := by
    rcases hL with ⟨h1, h2⟩ | ⟨Q, v, Z, h1, h2, h3, h4, h5⟩
    · exact ⟨zeroP, _, (o5.block g4 (by omega)).trans h2, rfl, Hid.mk (.inl ⟨h1, rfl, rfl⟩)⟩
    · refine ⟨Q, v, (o5.block g4 (by omega)).trans h3, ?_, Hid.mk (.inr ⟨Z, h1, h2, ownM_block h4 (fun q hq => o5.block q (by have := ownM_base h4 q hq; omega)), h5⟩)⟩
      obtain ⟨_, _, e, _⟩ := ownM_shape h4
      rw [e]
      rfl
  clear hL HAT
  go_wp2_with (first | (refine wl_value rfl (look_st rfl isPk p5 (by rfl)) ?_) | (refine st_stO rfl rfl isPk (fun i => pkV_one hon i) q2c (by rfl) (by rfl) ?_; intro u6 q6 o6; refine Hid.out ?_))
  refine Hid.mk ?_
  go_wp2_with fail
  have lg2 := heap_lt q2b
  refine bodyPost_ret (res_ct rfl isPk q6 (by rfl) (by rfl)) rfl ⟨hBc.trans (o6.below (by omega)), Q, v, x, rfl, ?_⟩
  rcases HF.out with h | ⟨Z, h1, h2, h3, h4⟩
  · exact .inl h
  · exact .inr ⟨Z, h1, h2, ownM_mono (ownM_block h3 (fun q hq => o6.block q (by have := ownM_base h3 q hq; omega))) (by have := hBb.size; omega), h4⟩
end Go.Proofs.Ytdlepeogmjmleaa
