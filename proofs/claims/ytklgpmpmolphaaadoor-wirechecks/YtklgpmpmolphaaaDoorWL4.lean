/-
  Own text. WireChecks: a text with its own checksum has the checksum 0.
-/
import Derived.Test.YtklgpmpmolphaaaDoorJ5
namespace Go.Proofs.YtklgpmpmolphaaaDoor
open Go.RowKit Go.Proofs
set_option maxRecDepth 100000
theorem sw_app (A B : ByteArray) (he : A.size % 2 = 0) : ∀ j, sw (txt (A ++ B)) (A.size + j) = sw (txt A) A.size + sw (txt B) j
  | 0 => by
    have g : ∀ i, i ≤ A.size → sw (txt (A ++ B)) i = sw (txt A) i := by
      intro i
      induction i with
      | zero => intro _; rfl
      | succ i ih =>
        intro hi
        have ht : txt (A ++ B) i = txt A i := by rw [txt_append, if_pos (by omega)]
        unfold sw
        rw [ih (by omega), ht]
    rw [Nat.add_zero, g A.size (Nat.le_refl _)]
    show _ = _ + 0
    omega
  | j + 1 => by
    have ih := sw_app A B he j
    rw [← Nat.add_assoc]
    show sw (txt (A ++ B)) (A.size + j) + (if (A.size + j) % 2 = 0 then 256 * txt (A ++ B) (A.size + j) else txt (A ++ B) (A.size + j)) = sw (txt A) A.size + (sw (txt B) j + (if j % 2 = 0 then 256 * txt B j else txt B j))
    have ht : txt (A ++ B) (A.size + j) = txt B j := by rw [txt_append, if_neg (by omega), Nat.add_sub_cancel_left]
    rw [ih, ht, show (A.size + j) % 2 = j % 2 by omega]
    omega
theorem sumT_turn {A B : ByteArray} (ha : A.size % 2 = 0) (hb : B.size % 2 = 0) : sumT (B ++ A) = sumT (A ++ B) := by
  unfold sumT
  rw [ByteArray.size_append, ByteArray.size_append, sw_app B A hb, sw_app A B ha, Int.add_comm]
theorem sumT_own {t : ByteArray} {n : Nat} (he : t.size % 2 = 0) (hn : sumT t = (n : Int)) : sumT (t ++ putT n 2) = 0 := by
  have hb := sumT_b t
  have hs : (putT n 2).size = 2 := mkS_size _ _
  have h0 := sw_nn (fun i => (txt_b t i).1) t.size
  have f0 : txt (putT n 2) 0 = putF n 2 0 := txt_mkS (putF_b n 2 0) (by decide)
  have f1 : txt (putT n 2) 1 = putF n 2 1 := txt_mkS (putF_b n 2 1) (by decide)
  have e2 : sw (txt (putT n 2)) 2 = (n : Int) := by
    show (0 + (if 0 % 2 = 0 then 256 * txt (putT n 2) 0 else txt (putT n 2) 0)) + (if 1 % 2 = 0 then 256 * txt (putT n 2) 1 else txt (putT n 2) 1) = _
    rw [if_pos rfl, if_neg (by decide), f0, f1]
    unfold putF
    simp
    omega
  unfold sumT at hn ⊢
  rw [ByteArray.size_append, hs, sw_app t _ he, e2, ← hn]
  generalize sw (txt t) t.size = S at h0
  unfold cano
  by_cases e : S = 0
  · subst e
    rw [if_pos rfl, if_neg (by omega)]
    omega
  · rw [if_neg e, if_neg (by omega)]
    omega
theorem run_bsS3 (s t u : ByteArray) (w : World) : (Instr.buildSlice 22 3 #[(0, .string s), (1, .string t), (2, .string u)]).run Tryd.prog w = .ok (.slice (some ⟨w.heap.size, 0, none⟩) 3 3) (w.alloc (.cells #[.string s, .string t, .string u] 9)) := by simp [go_sem]
theorem run_bsS2 (s t : ByteArray) (w : World) : (Instr.buildSlice 22 2 #[(0, .string s), (1, .string t)]).run Tryd.prog w = .ok (.slice (some ⟨w.heap.size, 0, none⟩) 2 2) (w.alloc (.cells #[.string s, .string t] 9)) := by simp [go_sem]
theorem run_bsS1 (s : ByteArray) (w : World) : (Instr.buildSlice 22 1 #[(0, .string s)]).run Tryd.prog w = .ok (.slice (some ⟨w.heap.size, 0, none⟩) 1 1) (w.alloc (.cells #[.string s] 9)) := by simp [go_sem]
section
variable {o : Oper} {a : Act} {w : World} {K : Act → World → Prop} {Q : Exit → Act → World → Prop} {x y z : Operand}
theorem act_bsS3 (ho : o.op = .buildSlice 22 3 #[(0, x), (1, y), (2, z)]) {s t u : ByteArray} (hx : a.eval x = .string s) (hy : a.eval y = .string t) (hz : a.eval z = .string u)
    (h : ∀ w', Below w.heap.size w w' → w.heap.size ≤ w.heap.size → ContOK (isOb #[.string s, .string t, .string u] 9) w' w.heap.size → K (a.put o.dst (.slice (some ⟨w.heap.size, 0, none⟩) 3 3)) w') : o.wp Tryd.prog a w K Q := by
  have hr := run_bsS3 s t u w
  unfold Oper.wp execOp
  simp only [ho, List.map_toArray, List.map_cons, List.map_nil, hx, hy, hz, Sem.run_bind, hr, Result.andThen_ok, Sem.run_pure, Oper.upon]
  exact h _ ((Below.refl _ w).alloc (Nat.le_refl _) _) (Nat.le_refl _) (obIn (heap_alloc_new w _))
theorem act_bsS1 (ho : o.op = .buildSlice 22 1 #[(0, x)]) {s : ByteArray} (hx : a.eval x = .string s)
    (h : ∀ w', Below w.heap.size w w' → w.heap.size ≤ w.heap.size → ContOK (isOb #[.string s] 9) w' w.heap.size → K (a.put o.dst (.slice (some ⟨w.heap.size, 0, none⟩) 1 1)) w') : o.wp Tryd.prog a w K Q := by
  have hr := run_bsS1 s w
  unfold Oper.wp execOp
  simp only [ho, List.map_toArray, List.map_cons, List.map_nil, hx, Sem.run_bind, hr, Result.andThen_ok, Sem.run_pure, Oper.upon]
  exact h _ ((Below.refl _ w).alloc (Nat.le_refl _) _) (Nat.le_refl _) (obIn (heap_alloc_new w _))
theorem wl_bsS2 {ops : Array Oper} {rest : List Oper} {Q : Exit → Act → World → Prop} (ho : o.op = .buildSlice 22 2 #[(0, x), (1, y)]) (hw : Region.wanted o (yielded ops a.tmps) = true) {s t : ByteArray} (hx : a.eval x = .string s) (hy : a.eval y = .string t)
    (h : ∀ g w', w.heap.size ≤ g → w'.heap[g]? = some (.cells #[.string s, .string t] 9 (0, 0)) → Below w.heap.size w w' → wpList Tryd.prog ops Q rest (a.put o.dst (.slice (some ⟨g, 0, none⟩) 2 2)) w') : wpList Tryd.prog ops Q (o :: rest) a w := by
  refine wl_act hw ?_
  have hr := run_bsS2 s t w
  unfold Oper.wp execOp
  simp only [ho, List.map_toArray, List.map_cons, List.map_nil, hx, hy, Sem.run_bind, hr, Result.andThen_ok, Sem.run_pure, Oper.upon]
  exact h _ _ (Nat.le_refl _) (heap_alloc_new w _) ((Below.refl _ w).alloc (Nat.le_refl _) _)
end
theorem enterW_Su (args : Array Value) (w : World) : (callFunc 11 args).run Tryd.prog w = .ok (.enter 11 args) w := by kernel_rfl
set_option maxHeartbeats 4000000 in
theorem pick_run (c : Int) (n : Nat) (w : World) (hc : -9223372036854775808 ≤ c ∧ c < 9223372036854775808) (hn : 0 < n) : Calls Tryd.prog 14 #[.int .i64 c, .int .i64 (n : Int)] w fun e w' => (∃ q : Nat, e = .returned (.int .i64 (q : Int)) ∧ q < n) ∧ w' = w := by
  go_enter Tryd.func14, Tryd.ntmps14
  by_cases h : c < 0
  · obtain ⟨d, hd⟩ : ∃ d : Nat, -(c + 1) = (d : Int) := ⟨(-(c + 1)).toNat, by omega⟩
    have h1 : -9223372036854775808 ≤ c + 1 ∧ c + 1 ≤ 9223372036854775807 := by omega
    have h2 : -9223372036854775808 ≤ -(c + 1) ∧ -(c + 1) ≤ 9223372036854775807 := by omega
    go_upto_region 3 with fail
    go_wp2_with (refine wl_value rfl (exec_remW (i := d) (m := n) rfl (by rfl) (by rfl) rfl hn) ?_)
    go_ret
    exact ⟨⟨d % n, rfl, Nat.mod_lt _ hn⟩, rfl⟩
  · obtain ⟨d, rfl⟩ : ∃ d : Nat, c = (d : Int) := ⟨c.toNat, by omega⟩
    go_wp2_with (refine wl_value rfl (exec_remW (i := d) (m := n) rfl (by rfl) (by rfl) rfl hn) ?_)
    go_ret
    exact ⟨⟨d % n, rfl, Nat.mod_lt _ hn⟩, rfl⟩
set_option maxHeartbeats 32000000 in
theorem checks_walk (s : ByteArray) (cut turn : Int) (w : World) (wc : (Lit.int .i64 cut).wf = true) (wt : (Lit.int .i64 turn).wf = true) (hs : s.size ≤ 140737488351232) (hE : Env w) : Calls Tryd.prog 4 #[.string s, .int .i64 cut, .int .i64 turn] w fun e w' => e = .returned (.bool true) ∧ Below w.heap.size w w' := by
  have bc := bounds_i64 wc
  have bt := bounds_i64 wt
  clear wc wt
  go_enter Tryd.func4, Tryd.ntmps4
  go_wp2_with (go_at_call 9; refine (awake_run _ hE).mono ?_; rintro e u2 ⟨rfl, hB2⟩; refine Hid.out ?_)
  refine Hid.mk ?_
  go_upto_if 17 with fail
  go_cut [8] (fun s8 z => ∃ t : ByteArray, s8 = .string t ∧ Hid (t.size % 2 = 0 ∧ t.size ≤ 140737488351232) ∧ Below w.heap.size w z)
  case first =>
    obtain ⟨N, hN⟩ : ∃ N, s.size = N := ⟨_, rfl⟩
    rcases Nat.mod_two_eq_zero_or_one N with e | e
    · have HR := Hid.mk e
      go_wp2_with (refine wl_value rfl (exec_remW (i := N) (m := 2) (q := 0) rfl (by rfl) (by rfl) HR.out (by decide)) ?_)
      go_meet
      case rel => exact ⟨s, rfl, Hid.mk ⟨by rw [hN]; exact HR.out, hs⟩, hB2⟩
    · have HR := Hid.mk e
      have HZ : Hid ((s.extract 0 (N - 1)).size % 2 = 0 ∧ (s.extract 0 (N - 1)).size ≤ 140737488351232) := Hid.mk (by rw [ByteArray.size_extract]; omega)
      go_wp2_with (first | (refine wl_value rfl (exec_remW (i := N) (m := 2) (q := 1) rfl (by rfl) (by rfl) HR.out (by decide)) ?_))
      go_meet
      case rel => exact ⟨_, rfl, HZ, hB2⟩
  case rest =>
    obtain ⟨t, rfl, HT, hBa⟩ := hcut
    clear hB2 hs hE
    obtain ⟨N, hN⟩ : ∃ N, t.size = N := ⟨_, rfl⟩
    have hNe : N % 2 = 0 := by rw [← hN]; exact HT.out.1
    have hNl : N ≤ 140737488351232 := by rw [← hN]; exact HT.out.2
    obtain ⟨n, hn⟩ : ∃ n : Nat, sumT t = (n : Int) := ⟨(sumT t).toNat, by have := sumT_b t; omega⟩
    have hnl : n ≤ 65535 := by have := sumT_b t; omega
    have hni0 : ¬ (n : Int) < 0 := by omega
    have hni1 : ¬ (65535 : Int) < (n : Int) := by omega
    have HS1 : Hid (∀ ww g, Strs ww (.slice (some ⟨g, 0, none⟩) 1 1) 1 (one1 t) → Calls Tryd.prog 11 #[.slice (some ⟨g, 0, none⟩) 1 1] ww fun e w' => e = .returned (.int .i64 (n : Int)) ∧ w' = ww) := Hid.mk (fun ww g hc => by
      have := Sum_run (.slice (some ⟨g, 0, none⟩) 1 1) 1 (one1 t) ww hc (by decide) (by rw [joinB_one]; omega)
      rw [joinB_one, hn] at this
      exact this)
    have HS2 : Hid (∀ ww g, ww.heap[g]? = some (.cells #[.string t, .string (putT n 2)] 9 (0, 0)) → Calls Tryd.prog 11 #[.slice (some ⟨g, 0, none⟩) 2 2] ww fun e w' => e = .returned (.int .i64 0) ∧ w' = ww) := Hid.mk (fun ww g hc => by
      have hj : joinB (fun i => if i = 0 then t else putT n 2) 2 = t ++ putT n 2 := by
        show (ByteArray.empty ++ t) ++ putT n 2 = _
        simp
      have := Sum_run (.slice (some ⟨g, 0, none⟩) 2 2) 2 (fun i => if i = 0 then t else putT n 2) ww (strs_row' (cap := 2) hc (fun j hj => by
        match j, hj with
        | 0, _ => rfl
        | 1, _ => rfl)) (by decide) (by rw [hj, ByteArray.size_append, show (putT n 2).size = 2 from mkS_size _ _]; omega)
      rw [hj, sumT_own HT.out.1 hn] at this
      exact this)
    go_wp2_with (refine wl_bsS1 rfl rfl (by rfl) ?_; intro gS u3 hgS cS hB3; refine Hid.out ?_)
    refine Hid.mk ?_
    have HSx := Hid.mk (HS1.out u3 gS cS)
    have hBb := hBa.trans (hB3.mono hBa.size)
    clear HS1 cS hBa hB3
    go_wp2_with (first | (go_at_call 11; refine HSx.out.mono ?_; rintro e u4 ⟨rfl, rfl⟩) | (refine wl_value rfl (exec_cvIU (m := n) rfl (by rfl) (by omega)) ?_) | (go_at_call 13; refine (Put_run n 2 _ (by decide) (by decide)).mono ?_; rintro e u5 ⟨rfl, hB5⟩; refine Hid.out ?_))
    refine Hid.mk ?_
    have hBc := hBb.trans (hB5.mono hBb.size)
    have HSy := Hid.mk (HS2.out _ _ (heap_alloc_new u5 (.cells #[.string t, .string (putT n 2)] 9)))
    have hBd := hBc.trans (((Below.refl _ u5).alloc (Nat.le_refl _) (.cells #[.string t, .string (putT n 2)] 9)).mono hBc.size)
    generalize hu6 : u5.alloc (.cells #[.string t, .string (putT n 2)] 9) = u6 at *
    go_wp2_with fail
    clear HSx HS2 hBb hBc hB5
    refine HSy.out.mono ?_
    rintro e u7 ⟨rfl, hz7⟩
    have hz8 := hz7.symm
    subst hz8
    clear hz7
    go_wp2_with fail
    refine (pick_run cut (N + 1) _ (by omega) (by omega)).mono ?_
    rintro e u8 ⟨⟨k, rfl, hk⟩, hz7⟩
    have hz8 := hz7.symm
    subst hz8
    clear hz7
    obtain ⟨H, hH⟩ : ∃ H, N / 2 = H := ⟨_, rfl⟩
    have HHq := Hid.mk hH
    go_wp2_with (first | (refine wl_value rfl (exec_quoW (i := N) (m := 2) rfl (by rfl) (by rfl) HHq.out (by decide) (by omega)) ?_))
    refine (pick_run turn (H + 1) _ (by omega) (by omega)).mono ?_
    rintro e u9 ⟨⟨j, rfl, hj⟩, hz7⟩
    have hz8 := hz7.symm
    subst hz8
    clear hz7
    obtain ⟨m, hm⟩ : ∃ m, j * 2 = m := ⟨_, rfl⟩
    have HMq := Hid.mk hm
    have hmN : m ≤ N := by omega
    have hme : m % 2 = 0 := by omega
    go_upto_region 10 with (refine wl_value rfl (exec_mulW (i := j) (m := 2) rfl (by rfl) (by rfl) HMq.out (by omega)) ?_)
    obtain ⟨wI, hwI⟩ : ∃ x, x = u6 := ⟨_, rfl⟩
    rw [← hwI] at hBd ⊢
    clear hwI HSy HMq HHq hu6
    obtain ⟨A, hA⟩ : ∃ A, t.extract 0 k = A := ⟨_, rfl⟩
    obtain ⟨C, hC⟩ : ∃ C, t.extract k t.size = C := ⟨_, rfl⟩
    obtain ⟨D, hD⟩ : ∃ D, t.extract 0 m = D := ⟨_, rfl⟩
    obtain ⟨E, hE2⟩ : ∃ E, t.extract m t.size = E := ⟨_, rfl⟩
    have hAC : A ++ C = t := by rw [← hA, ← hC]; exact app_cut t k (by omega)
    have hDE : D ++ E = t := by rw [← hD, ← hE2]; exact app_cut t m (by omega)
    have hDs : D.size = m := by rw [← hD, ByteArray.size_extract]; omega
    have hEs : E.size % 2 = 0 := by
      have := congrArg ByteArray.size hDE
      rw [ByteArray.size_append, hDs, hN] at this
      omega
    have HSA : Hid (∀ u, (Instr.sliceAt 9 (.string t) none (some (.int .i64 (k : Int))) none).run Tryd.prog u = .ok (.string A) u) := Hid.mk (fun u => by rw [← hA]; exact strH t k u (by omega))
    have HSD : Hid (∀ u, (Instr.sliceAt 9 (.string t) none (some (.int .i64 (m : Int))) none).run Tryd.prog u = .ok (.string D) u) := Hid.mk (fun u => by rw [← hD]; exact strH t m u (by omega))
    have HSC : Hid (∀ u, (Instr.sliceAt 9 (.string t) (some (.int .i64 (k : Int))) none none).run Tryd.prog u = .ok (.string C) u) := Hid.mk (fun u => by rw [← hC]; exact strL t k u (by omega))
    have HSE : Hid (∀ u, (Instr.sliceAt 9 (.string t) (some (.int .i64 (m : Int))) none none).run Tryd.prog u = .ok (.string E) u) := Hid.mk (fun u => by rw [← hE2]; exact strL t m u (by omega))
    have HCA : Hid (E.size + D.size ≤ 9223372036854775807) := Hid.mk (by
      have := congrArg ByteArray.size hDE
      rw [ByteArray.size_append] at this
      omega)
    have HS3 : Hid (∀ ww g, ContOK (isOb #[.string A, .string ⟨#[]⟩, .string C] 9) ww g → Calls Tryd.prog 11 #[.slice (some ⟨g, 0, none⟩) 3 3] ww fun e w' => e = .returned (.int .i64 (n : Int)) ∧ Below ww.heap.size ww w') := Hid.mk (fun ww g hc => by
      have hj : joinB (fun i => if i = 0 then A else if i = 1 then ⟨#[]⟩ else C) 3 = t := by
        show ((ByteArray.empty ++ A) ++ ByteArray.empty) ++ C = _
        rw [← hAC]
        simp
      have := Sum_run (.slice (some ⟨g, 0, none⟩) 3 3) 3 (fun i => if i = 0 then A else if i = 1 then ⟨#[]⟩ else C) ww (strs_row' (cap := 3) (obAt hc) (fun j hj => by
        match j, hj with
        | 0, _ => rfl
        | 1, _ => rfl
        | 2, _ => rfl)) (by decide) (by rw [hj]; omega)
      rw [hj, hn] at this
      exact this.mono (fun e w' h => ⟨h.1, h.2 ▸ Below.refl _ _⟩))
    have HS1 : Hid (∀ ww g, ContOK (isOb #[.string (E ++ D)] 9) ww g → Calls Tryd.prog 11 #[.slice (some ⟨g, 0, none⟩) 1 1] ww fun e w' => e = .returned (.int .i64 (n : Int)) ∧ Below ww.heap.size ww w') := Hid.mk (fun ww g hc => by
      have := Sum_run (.slice (some ⟨g, 0, none⟩) 1 1) 1 (one1 (E ++ D)) ww (strs_row' (cap := 1) (obAt hc) (fun j hj => by
        match j, hj with
        | 0, _ => rfl)) (by decide) (by
          rw [joinB_one]
          have := congrArg ByteArray.size hDE
          rw [ByteArray.size_append] at this ⊢
          omega)
      rw [joinB_one, sumT_turn (A := D) (B := E) (by omega) hEs, hDE, hn] at this
      exact this.mono (fun e w' h => ⟨h.1, h.2 ▸ Below.refl _ _⟩))
    obtain ⟨Z, hZ⟩ : ∃ Z : Int, (n : Int) = Z := ⟨_, rfl⟩
    rw [hZ] at HS3 HS1 ⊢
    clear hZ hA hC hD hE2 hAC hDE hDs hEs hn hni0 hni1
    refine wp_region3 (Below wI.heap.size wI) wI.heap.size
        ([] : List (Nat × Cont))
        [kv (.bool true), kv (.bool true), kv (.string t), kv (.int .i64 (k : Int)), kv (.string A), kv (.string t), kv (.int .i64 (k : Int)), kv (.string C), ks 3 #[.string A, .string ⟨#[]⟩, .string C] 9, kv (.int .i64 Z), kv (.int .i64 Z), kv (.bool true), kv (.bool true), kv (.bool true), kv (.string t), kv (.int .i64 (m : Int)), kv (.string E), kv (.string t), kv (.int .i64 (m : Int)), kv (.string D), kv (.string (E ++ D)), ks 1 #[.string (E ++ D)] 9, kv (.int .i64 Z), kv (.int .i64 Z), kv (.bool true), kv (.bool true), kv (.bool true)]
        [.none, .none, .none, .none, .none, .none, .none, .none, .none, .none, .none, .none, .none, .none, .none, .none, .none, .none, .none, .none, .none, .none, .none, .none, .none, .none, .none]
        [some 53, some 54, some 55, some 56, some 57, some 58, some 59, some 60, some 61, some 62, some 63, some 64, some 65, some 66, some 67, some 68, some 69, some 70, some 71, some 72, some 73, some 74, some 75, some 76, some 77, some 78, some 6]
        [(7, .bool true), (8, .string t), (9, .int .i64 Z), (10, .int .i64 (k : Int)), (11, .int .i64 (m : Int))]
        [[], [.slot 0], [.slot 1], [.slot 1], [.slot 1, .slot 2, .slot 3], [.slot 1], [.slot 1], [.slot 1, .slot 5, .slot 6], [.slot 1, .slot 4, .slot 7], [.slot 1, .slot 8, .cont 8 0], [.slot 1], [.slot 1, .slot 9, .slot 10], [.slot 1, .slot 11], [.slot 12], [.slot 13], [.slot 13], [.slot 13, .slot 14, .slot 15], [.slot 13], [.slot 13], [.slot 13, .slot 17, .slot 18], [.slot 13, .slot 16, .slot 19], [.slot 13, .slot 20], [.slot 13, .slot 21, .cont 21 0], [.slot 13], [.slot 13, .slot 22, .slot 23], [.slot 13, .slot 24], [.slot 25]]
        [.slot 26] [53, 54, 55, 56, 57, 58, 59, 60, 61, 62, 63, 64, 65, 66, 67, 68, 69, 70, 71, 72, 73, 74, 75, 76, 77, 78, 6]
        rfl (by kernel_rfl) ⟨rfl, rfl, rfl, rfl, rfl, trivial⟩ ((Below.refl _ wI).drew) (Nat.le_refl _) trivial trivial (below_GcW (Nat.le_refl _))
        ⟨
          (fun Q aq ww own hS hBg fr kn => .inl ⟨trivial, fun K hK => wp_value (exec_move rfl fr.1) (hK _ _ ⟨Touch.refl _ _, rfl⟩)⟩),
          (fun Q aq ww own hS hBg fr kn => .inl ⟨trivial, fun K hK => wp_value (exec_move rfl kn.1) (hK _ _ ⟨Touch.refl _ _, rfl⟩)⟩),
          (fun Q aq ww own hS hBg fr kn => .inl ⟨kn.1, fun K hK => wp_value (exec_move rfl fr.2.1) (hK _ _ ⟨Touch.refl _ _, rfl⟩)⟩),
          (fun Q aq ww own hS hBg fr kn => .inl ⟨kn.1, fun K hK => wp_value (exec_move rfl fr.2.2.2.1) (hK _ _ ⟨Touch.refl _ _, rfl⟩)⟩),
          (fun Q aq ww own hS hBg fr kn => .inl ⟨kn.1, fun K hK => wp_value (exec_slH rfl kn.2.1 kn.2.2.1 (HSA.out ww)) (hK _ _ ⟨Touch.refl _ _, rfl⟩)⟩),
          (fun Q aq ww own hS hBg fr kn => .inl ⟨kn.1, fun K hK => wp_value (exec_move rfl fr.2.1) (hK _ _ ⟨Touch.refl _ _, rfl⟩)⟩),
          (fun Q aq ww own hS hBg fr kn => .inl ⟨kn.1, fun K hK => wp_value (exec_move rfl fr.2.2.2.1) (hK _ _ ⟨Touch.refl _ _, rfl⟩)⟩),
          (fun Q aq ww own hS hBg fr kn => .inl ⟨kn.1, fun K hK => wp_value (exec_slL rfl kn.2.1 kn.2.2.1 (HSC.out ww)) (hK _ _ ⟨Touch.refl _ _, rfl⟩)⟩),
          (fun Q aq ww own hS hBg fr kn => .inl ⟨kn.1, fun K hK => act_bsS3 rfl kn.2.1 rfl kn.2.2.1 (fun w' hb hz hc => hK _ _ ⟨touch_below hb, _, hz, rfl, hc⟩)⟩),
          (fun Q aq ww own hS hBg fr kn => .inl ⟨kn.1, fun K hK => stepc enterW_Su rfl (args1 kn.2.1.1) (HS3.out ww (own 8) kn.2.2.1) (fun w' hb => hK _ _ ⟨touch_below hb, rfl⟩)⟩),
          (fun Q aq ww own hS hBg fr kn => .inl ⟨kn.1, fun K hK => wp_value (exec_move rfl fr.2.2.1) (hK _ _ ⟨Touch.refl _ _, rfl⟩)⟩),
          (fun Q aq ww own hS hBg fr kn => .inl ⟨kn.1, fun K hK => wp_value (exec_bin2 (V := .bool true) rfl kn.2.1 kn.2.2.1 rfl (by simp [go_sem])) (hK _ _ ⟨Touch.refl _ _, rfl⟩)⟩),
          (fun Q aq ww own hS hBg fr kn => .inl ⟨trivial, fun K hK => wp_value (exec_pick (v := .bool true) rfl kn.1 kn.2.1) (hK _ _ ⟨Touch.refl _ _, rfl⟩)⟩),
          (fun Q aq ww own hS hBg fr kn => .inl ⟨trivial, fun K hK => wp_value (exec_move rfl kn.1) (hK _ _ ⟨Touch.refl _ _, rfl⟩)⟩),
          (fun Q aq ww own hS hBg fr kn => .inl ⟨kn.1, fun K hK => wp_value (exec_move rfl fr.2.1) (hK _ _ ⟨Touch.refl _ _, rfl⟩)⟩),
          (fun Q aq ww own hS hBg fr kn => .inl ⟨kn.1, fun K hK => wp_value (exec_move rfl fr.2.2.2.2.1) (hK _ _ ⟨Touch.refl _ _, rfl⟩)⟩),
          (fun Q aq ww own hS hBg fr kn => .inl ⟨kn.1, fun K hK => wp_value (exec_slL rfl kn.2.1 kn.2.2.1 (HSE.out ww)) (hK _ _ ⟨Touch.refl _ _, rfl⟩)⟩),
          (fun Q aq ww own hS hBg fr kn => .inl ⟨kn.1, fun K hK => wp_value (exec_move rfl fr.2.1) (hK _ _ ⟨Touch.refl _ _, rfl⟩)⟩),
          (fun Q aq ww own hS hBg fr kn => .inl ⟨kn.1, fun K hK => wp_value (exec_move rfl fr.2.2.2.2.1) (hK _ _ ⟨Touch.refl _ _, rfl⟩)⟩),
          (fun Q aq ww own hS hBg fr kn => .inl ⟨kn.1, fun K hK => wp_value (exec_slH rfl kn.2.1 kn.2.2.1 (HSD.out ww)) (hK _ _ ⟨Touch.refl _ _, rfl⟩)⟩),
          (fun Q aq ww own hS hBg fr kn => .inl ⟨kn.1, fun K hK => wp_value (exec_catS rfl kn.2.1 kn.2.2.1 HCA.out) (hK _ _ ⟨Touch.refl _ _, rfl⟩)⟩),
          (fun Q aq ww own hS hBg fr kn => .inl ⟨kn.1, fun K hK => act_bsS1 rfl kn.2.1 (fun w' hb hz hc => hK _ _ ⟨touch_below hb, _, hz, rfl, hc⟩)⟩),
          (fun Q aq ww own hS hBg fr kn => .inl ⟨kn.1, fun K hK => stepc enterW_Su rfl (args1 kn.2.1.1) (HS1.out ww (own 21) kn.2.2.1) (fun w' hb => hK _ _ ⟨touch_below hb, rfl⟩)⟩),
          (fun Q aq ww own hS hBg fr kn => .inl ⟨kn.1, fun K hK => wp_value (exec_move rfl fr.2.2.1) (hK _ _ ⟨Touch.refl _ _, rfl⟩)⟩),
          (fun Q aq ww own hS hBg fr kn => .inl ⟨kn.1, fun K hK => wp_value (exec_bin2 (V := .bool true) rfl kn.2.1 kn.2.2.1 rfl (by simp [go_sem])) (hK _ _ ⟨Touch.refl _ _, rfl⟩)⟩),
          (fun Q aq ww own hS hBg fr kn => .inl ⟨trivial, fun K hK => wp_value (exec_pick (v := .bool true) rfl kn.1 kn.2.1) (hK _ _ ⟨Touch.refl _ _, rfl⟩)⟩),
          (fun Q aq ww own hS hBg fr kn => .inl ⟨trivial, fun K hK => wp_value (exec_assign rfl kn.1) (hK _ _ ⟨Touch.refl _ _, rfl⟩)⟩),
          trivial⟩ ?_
    intro vs own u6 hB6 hsz6 kn inj
    have e6 : vs 6 = .bool true := kn.1
    clear kn inj hsz6
    simp only [putAll, Act.put, List.setIfInBounds_toArray, List.set_cons_zero, List.set_cons_succ, e6]
    clear e6
    go_wp2_with fail
    go_ret
    exact ⟨rfl, hBd.trans (hB6.mono hBd.size)⟩
end Go.Proofs.YtklgpmpmolphaaaDoor
