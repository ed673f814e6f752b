/-
  Own text. SessionPlays: sameNumbers, is.
-/
import Derived.Test.YtbkbcfimpaolmaaGreatSDB
namespace Go.Proofs.YtbkbcfimpaolmaaGreat
open Go.RowKit Go.Proofs
set_option maxRecDepth 100000
set_option maxHeartbeats 4000000 in
theorem same_run {w : World} {A B n : Nat} {va vb : Value} {l : List Int} (ha : w.ownsRow A 28 1 va n (u32X l)) (hb : w.ownsRow B 28 1 vb n (u32X l)) (hl : n ≤ 3) : Calls Tryz.prog 16 #[va, vb] w fun e w' => e = .returned (.bool true) ∧ Below w.heap.size w w' := by
  obtain ⟨_, p, cp, rfl, ha2⟩ := own_u32 ha
  obtain ⟨_, q, cq, rfl, hb2⟩ := own_u32 hb
  have HA := Hid.mk ha2
  have HB := Hid.mk hb2
  clear ha hb ha2 hb2
  go_enter Tryz.func16, Tryz.ntmps16
  go_wp2_with fail
  go_loopg [5] n (fun gm s5 v => ∃ k : Nat, gm = n - k ∧ k ≤ n ∧ s5 = .int .i64 (k : Int) ∧ Below w.heap.size w v)
  case atStart => exact ⟨0, by omega, by omega, rfl, Below.refl _ _⟩
  case round =>
    obtain ⟨k, hgm, hk, rfl, hB⟩ := hrel
    by_cases hlt : k < n
    · obtain ⟨g1, rfl, h1⟩ := HA.out (by omega)
      obtain ⟨g2, rfl, h2⟩ := HB.out (by omega)
      have c1 : wr.cell? ⟨g1, k, none⟩ = some (.int .u32 (l.getD k 0)) := by
        have := h1 k hlt
        rw [← this, hB.cell (p := ⟨g1, k, none⟩) (World.block_lt_of_cell? _ _ this)]
      have c2 : wr.cell? ⟨g2, k, none⟩ = some (.int .u32 (l.getD k 0)) := by
        have := h2 k hlt
        rw [← this, hB.cell (p := ⟨g2, k, none⟩) (World.block_lt_of_cell? _ _ this)]
      generalize l.getD k 0 = y at *
      have hk0 : (0 : Int) ≤ (k : Int) := by omega
      have hkn : (k : Int) < (n : Int) := by omega
      have hB2 := hB.drew
      clear h1 h2
      go_wp2_with fail
      go_region
      go_wp2_with fail
      go_roundg (n - (k + 1))
      case rel => exact ⟨k + 1, rfl, by omega, by go_num, hB2⟩
      case measure => omega
    · have hkn : ¬ (k : Int) < (n : Int) := by omega
      have hkd : decide ((k : Int) < (n : Int)) = false := decide_eq_false hkn
      go_wp2_with fail
      go_ret
      exact ⟨rfl, hB⟩
theorem told_at (K : Nat → Kp) : ∀ (l : List Nat) (k f : Nat), k < l.length → f < 8 → (toldX K l)[8 * k + f]? = some (toV (l.getD k 0) (K (l.getD k 0)) f)
  | [], k, f, h, _ => by simp at h
  | x :: l, 0, f, _, hf => by
    unfold toldX
    rw [List.flatMap_cons, List.getElem?_append_left (by rw [Array.length_toList, SC_size]; omega), Array.getElem?_toList, SC_get 8 _ _ (by omega)]
    simp
  | x :: l, k + 1, f, h, hf => by
    have ih := told_at K l k f (by simpa using h) hf
    unfold toldX at ih ⊢
    rw [List.flatMap_cons, List.getElem?_append_right (by rw [Array.length_toList, SC_size]; omega), Array.length_toList, SC_size, show 8 * (k + 1) + f - 8 = 8 * k + f by omega, ih]
    simp
theorem eqf_cons {f : Field} {fs : List Field} {xs : Array Value} {d : Nat} {w : World} {v : Value} (hn : f.name ≠ "_") (hp : (part f.type xs f.offset).run Tryz.prog w = .ok v w) (he : (Op.equalIn d f.type v v).run Tryz.prog w = .ok true w) (hr : (Op.eqFields d xs xs fs).run Tryz.prog w = .ok true w) : (Op.eqFields d xs xs (f :: fs)).run Tryz.prog w = .ok true w := by
  simp only [Op.eqFields, if_pos hn, Sem.run_bind, hp, Result.andThen_ok, he, Bool.not_true, Bool.false_eq_true, if_false, hr]
theorem part_cell {n o : Nat} {V : Nat → Value} {v : Value} {t t' : TypeId} (ht : t = t') (hag : ∀ w, (isAgg t').run Tryz.prog w = .ok false w) (ho : o < n) (hv : V o = v) (w : World) : (part t (SC n V) o).run Tryz.prog w = .ok v w := by
  subst ht
  unfold part
  simp only [Sem.run_bind, hag, Result.andThen_ok, Bool.false_eq_true, if_false, SC_get n V o ho, hv, Sem.run_pure]
theorem agg_int (w : World) : (isAgg 3).run Tryz.prog w = .ok false w := by kernel_rfl
theorem agg_uint32 (w : World) : (isAgg 28).run Tryz.prog w = .ok false w := by kernel_rfl
theorem agg_uint64 (w : World) : (isAgg 31).run Tryz.prog w = .ok false w := by kernel_rfl
theorem agg_bool (w : World) : (isAgg 4).run Tryz.prog w = .ok false w := by kernel_rfl
theorem eqn_int (k : Int) (d : Nat) (w : World) : (Op.equalIn (d + 1) 3 (.int .i64 k) (.int .i64 k)).run Tryz.prog w = .ok true w := by
  rw [run_equalIn_int w d 3 .i64 .i64 k k Tryz.underlying3, beq_self_eq_true]
theorem eqn_uint32 (k : Int) (d : Nat) (w : World) : (Op.equalIn (d + 1) 28 (.int .u32 k) (.int .u32 k)).run Tryz.prog w = .ok true w := by
  rw [run_equalIn_int w d 28 .u32 .u32 k k Tryz.underlying28, beq_self_eq_true]
theorem eqn_uint64 (k : Int) (d : Nat) (w : World) : (Op.equalIn (d + 1) 31 (.int .u64 k) (.int .u64 k)).run Tryz.prog w = .ok true w := by
  rw [run_equalIn_int w d 31 .u64 .u64 k k Tryz.underlying31, beq_self_eq_true]
theorem eqn_bool (k : Bool) (d : Nat) (w : World) : (Op.equalIn (d + 1) 4 (.bool k) (.bool k)).run Tryz.prog w = .ok true w := by
  cases k <;> kernel_rfl
theorem told_list : ∃ f0 f1 f2 f3 f4 f5 f6 f7 : Field, (Tryz.prog.fieldsOf 52).toList = [f0, f1, f2, f3, f4, f5, f6, f7] ∧ (f0.name ≠ "_" ∧ f0.type = 3 ∧ f0.offset = 0) ∧ (f1.name ≠ "_" ∧ f1.type = 3 ∧ f1.offset = 1) ∧ (f2.name ≠ "_" ∧ f2.type = 28 ∧ f2.offset = 2) ∧ (f3.name ≠ "_" ∧ f3.type = 28 ∧ f3.offset = 3) ∧ (f4.name ≠ "_" ∧ f4.type = 4 ∧ f4.offset = 4) ∧ (f5.name ≠ "_" ∧ f5.type = 3 ∧ f5.offset = 5) ∧ (f6.name ≠ "_" ∧ f6.type = 31 ∧ f6.offset = 6) ∧ (f7.name ≠ "_" ∧ f7.type = 31 ∧ f7.offset = 7) := by
  unfold Program.fieldsOf
  rw [Tryz.underlying52]
  exact ⟨_, _, _, _, _, _, _, _, rfl, ⟨by decide, rfl, rfl⟩, ⟨by decide, rfl, rfl⟩, ⟨by decide, rfl, rfl⟩, ⟨by decide, rfl, rfl⟩, ⟨by decide, rfl, rfl⟩, ⟨by decide, rfl, rfl⟩, ⟨by decide, rfl, rfl⟩, ⟨by decide, rfl, rfl⟩⟩
theorem equal_told (i : Nat) (k : Kp) (w : World) : (Op.equalIn 10000 52 (.agg (SC 8 (toV i k))) (.agg (SC 8 (toV i k)))).run Tryz.prog w = .ok true w := by
  rw [show (10000 : Nat) = 9997 + 1 + 1 + 1 from rfl, run_equalIn_struct w (9997 + 1 + 1) 52 _ _ (by kernel_rfl) (by kernel_rfl)]
  obtain ⟨f0, f1, f2, f3, f4, f5, f6, f7, hl, ⟨n0, t0, o0⟩, ⟨n1, t1, o1⟩, ⟨n2, t2, o2⟩, ⟨n3, t3, o3⟩, ⟨n4, t4, o4⟩, ⟨n5, t5, o5⟩, ⟨n6, t6, o6⟩, ⟨n7, t7, o7⟩⟩ := told_list
  rw [hl]
  refine eqf_cons n0 (v := .int .i64 (i : Int)) (by rw [o0]; exact part_cell t0 agg_int (by omega) rfl w) (by rw [t0]; exact eqn_int _ _ w) ?_
  refine eqf_cons n1 (v := .int .i64 k.ep) (by rw [o1]; exact part_cell t1 agg_int (by omega) rfl w) (by rw [t1]; exact eqn_int _ _ w) ?_
  refine eqf_cons n2 (v := .int .u32 k.loc) (by rw [o2]; exact part_cell t2 agg_uint32 (by omega) rfl w) (by rw [t2]; exact eqn_uint32 _ _ w) ?_
  refine eqf_cons n3 (v := .int .u32 k.far) (by rw [o3]; exact part_cell t3 agg_uint32 (by omega) rfl w) (by rw [t3]; exact eqn_uint32 _ _ w) ?_
  refine eqf_cons n4 (v := .bool k.fst) (by rw [o4]; exact part_cell t4 agg_bool (by omega) rfl w) (by rw [t4]; exact eqn_bool _ _ w) ?_
  refine eqf_cons n5 (v := .int .i64 k.born) (by rw [o5]; exact part_cell t5 agg_int (by omega) rfl w) (by rw [t5]; exact eqn_int _ _ w) ?_
  refine eqf_cons n6 (v := .int .u64 k.sent) (by rw [o6]; exact part_cell t6 agg_uint64 (by omega) rfl w) (by rw [t6]; exact eqn_uint64 _ _ w) ?_
  refine eqf_cons n7 (v := .int .u64 (topF k.s k.n)) (by rw [o7]; exact part_cell t7 agg_uint64 (by omega) rfl w) (by rw [t7]; exact eqn_uint64 _ _ w) ?_
  rfl
theorem eqGT : Tryz.prog.eqGuardType Tryz.prog.depth 52 = false := by kernel_rfl
theorem exec_neqT {a : Act} {o : Oper} {w : World} {x y : Operand} {u : TypeId} (ho : o.op = .binOp .neq 52 x y u) {i : Nat} {k : Kp} (hx : a.eval x = .agg (SC 8 (toV i k))) (hy : a.eval y = .agg (SC 8 (toV i k))) : (execOp a.eval o).run Tryz.prog w = .ok (.value (.bool false)) w := by
  unfold execOp
  simp only [ho, hx, hy, Sem.run_bind, run_eqGuard_agg w .neq 52 x y _ _ eqGT, Result.andThen_ok, run_neq_struct, equal_told, Sem.run_pure]
  rfl
theorem exec_ldT {a : Act} {o : Oper} {w : World} {x : Operand} (ho : o.op = .load 52 x) {g j i : Nat} {k : Kp} (hx : a.eval x = .pointer (some ⟨g, 8 * j, none⟩)) (hc : ∀ f, f < 8 → w.cell? ⟨g, 8 * j + f, none⟩ = some (toV i k f)) : (execOp a.eval o).run Tryz.prog w = .ok (.value (.agg (SC 8 (toV i k)))) w := by
  have h := run_loadAt_addr w ⟨g, 8 * j, none⟩ 52 (SC 8 (toV i k)).toList _ (fun j' v hv => by
    have hj : j' < 8 := by have := (List.getElem?_eq_some_iff.1 hv).1; rwa [Array.length_toList, SC_size] at this
    rw [Addr.add_lit, hc j' hj, ← SC_get 8 _ j' hj, ← Array.getElem?_toList, hv]) Tryz.underlying52 rfl (by rw [Array.length_toList, SC_size]; kernel_rfl)
  exact exec_ld ho hx h
theorem below_Gc7 {u7 u8 : World} (h : u7.heap.size ≤ u8.heap.size) (w w' : World) (hb : Below u7.heap.size u7 w) (ht : Touch (fun k => u8.heap.size ≤ k ∨ k ∈ (([] : List (Nat × Cont)).map (·.1))) w w') : Below u7.heap.size u7 w' :=
  hb.trans ⟨ht.os, ht.tape, ht.output, ht.size, fun k hk => ht.block k (by have := hb.size; omega) (fun e => e.elim (fun e => by omega) (fun e => by simp at e))⟩
set_option maxHeartbeats 8000000 in
theorem is_run {w0 w : World} {sb rb M : Nat} {N : Nat → Prop} {σ : Ses} (h : BoSt w0 sb rb N w σ σ) (ok : SesOk M σ) (hM : M ≤ 1000) (hb : ∀ i, i < 3 → 0 ≤ (σ.K i).born ∧ (σ.K i).born ≤ 4611686018427387904) : Calls Tryz.prog 7 #[.pointer (some ⟨sb, 0, none⟩), .pointer (some ⟨rb, 0, none⟩)] w fun e w' => e = .returned (.bool true) ∧ Below w.heap.size w w' := by
  go_enter Tryz.func7, Tryz.ntmps7
  go_wp2_with fail
  refine (h.readC (fun S hS => Slots_run hS)).mono ?_
  rintro e wA ⟨va, rfl, hO1, hB1⟩
  obtain ⟨p, cp, rfl, q1⟩ := own_told hO1
  go_wp2_with fail
  refine ((h.below hB1).readD (fun T hT => rSlots_run hT ok hM)).mono ?_
  rintro e wB ⟨vb, rfl, hO2, hB2⟩
  obtain ⟨q, cq, rfl, q2⟩ := own_told hO2
  have q1' : 0 < (slotsL σ.K 3).length → ∃ g, p = some ⟨g, 0, none⟩ ∧ ∀ i, i < (slotsL σ.K 3).length * 8 → wB.cell? ⟨g, i, none⟩ = (toldX σ.K (slotsL σ.K 3))[i]? := fun hp => by
    obtain ⟨g, rfl, hc⟩ := q1 hp
    refine ⟨g, rfl, fun i hi => ?_⟩
    have := hc i hi
    rw [← this]
    have hx : ∃ v, (toldX σ.K (slotsL σ.K 3))[i]? = some v := by
      obtain ⟨j, f, rfl, hj, hf⟩ : ∃ j f, i = 8 * j + f ∧ j < (slotsL σ.K 3).length ∧ f < 8 := ⟨i / 8, i % 8, by omega, by omega, by omega⟩
      exact ⟨_, told_at σ.K _ j f hj hf⟩
    obtain ⟨v, hv⟩ := hx
    rw [hv] at this
    exact hB2.cell (p := ⟨g, i, none⟩) (World.block_lt_of_cell? _ _ this)
  have HT := Hid.mk (told_at σ.K (slotsL σ.K 3))
  have hm3 := slotsL_len σ.K 3
  have h2 := (h.below hB1).below hB2
  have hB0 : Below w.heap.size w wB := hB1.trans (hB2.mono hB1.size)
  have Q1 := Hid.mk q1'
  have Q2 := Hid.mk q2
  have HB := Hid.mk hb
  clear h hO1 hO2 q1 q1' q2 hB1 hB2 hb
  generalize toldX σ.K (slotsL σ.K 3) = XX at *
  generalize hLL : (fun k => (slotsL σ.K 3).getD k 0) = LL at *
  have HT2 : Hid (∀ k f, k < (slotsL σ.K 3).length → f < 8 → XX[8 * k + f]? = some (toV (LL k) (σ.K (LL k)) f)) := Hid.mk (fun k f hk hf => by rw [← hLL]; exact HT.out k f hk hf)
  clear HT hLL
  generalize (slotsL σ.K 3).length = m at *
  go_wp2_with fail
  refine (h2.readC (fun S hS => Due_run hS HB.out)).mono ?_
  rintro e wC ⟨rfl, hB3⟩
  have h3 := h2.below hB3
  go_wp2_with fail
  refine (h3.readD (fun T hT => rDue_run hT HB.out)).mono ?_
  rintro e wD ⟨rfl, hB4⟩
  have hB24 : Below wB.heap.size wB wD := hB3.trans (hB4.mono hB3.size)
  have hB04 : Below w.heap.size w wD := hB0.trans (hB24.mono hB0.size)
  generalize dueF σ.K 3 = dd at *
  generalize hKK : σ.K = KK at *
  clear h2 h3 hB3 hB4 hB0 HB ok
  have hB00 : Below wD.heap.size wD wD := Below.refl _ _
  go_wp2_with fail
  go_loopg [7] m (fun gm s7 v => ∃ k : Nat, gm = m - k ∧ k ≤ m ∧ s7 = .int .i64 (k : Int) ∧ Below wD.heap.size wD v)
  case atStart => exact ⟨0, by omega, by omega, rfl, by first | exact hB00 | exact below_drewN hB00 _⟩
  case round =>
    obtain ⟨k, hgm, hk, rfl, hB⟩ := hrel
    clear hB00
    by_cases hlt : k < m
    · obtain ⟨g1, rfl, c1⟩ := Q1.out (by omega)
      obtain ⟨g2, rfl, c2⟩ := Q2.out (by omega)
      have H1 : Hid (∀ ww, Below wD.heap.size wD ww → ∀ k, k < m → ∀ f, f < 8 → ww.cell? ⟨g1, 8 * k + f, none⟩ = some (toV (LL k) (KK (LL k)) f)) := Hid.mk (fun ww hb k hk f hf => by
        have e := (c1 (8 * k + f) (by omega)).trans (HT2.out k f hk hf)
        have hl := World.block_lt_of_cell? _ _ e
        rw [hb.cell (p := ⟨g1, 8 * k + f, none⟩) (Nat.lt_of_lt_of_le hl hB24.size), hB24.cell (p := ⟨g1, 8 * k + f, none⟩) hl, e])
      have H2 : Hid (∀ ww, Below wD.heap.size wD ww → ∀ k, k < m → ∀ f, f < 8 → ww.cell? ⟨g2, 8 * k + f, none⟩ = some (toV (LL k) (KK (LL k)) f)) := Hid.mk (fun ww hb k hk f hf => by
        have e := (c2 (8 * k + f) (by omega)).trans (HT2.out k f hk hf)
        have hl := World.block_lt_of_cell? _ _ e
        rw [hb.cell (p := ⟨g2, 8 * k + f, none⟩) (Nat.lt_of_lt_of_le hl hB24.size), hB24.cell (p := ⟨g2, 8 * k + f, none⟩) hl, e])
      have hkn : (k : Int) < (m : Int) := by omega
      have hkd : decide ((k : Int) < (m : Int)) = true := decide_eq_true hkn
      clear c1 c2
      go_wp2_with fail
      refine wp_region3 (Below wD.heap.size wD) wr.heap.size
          ([] : List (Nat × Cont))
          [kv (.slice (some ⟨g1, 0, none⟩) m cp), kv (.int .i64 (k : Int)), kv (.pointer (some ⟨g1, 8 * k, none⟩)), kv (.agg (SC 8 (toV (LL k) (KK (LL k))))), kv (.slice (some ⟨g2, 0, none⟩) m cq), kv (.int .i64 (k : Int)), kv (.pointer (some ⟨g2, 8 * k, none⟩)), kv (.agg (SC 8 (toV (LL k) (KK (LL k))))), kv (.bool false)]
          [.none, .none, .none, .none, .none, .none, .none, .none, .none]
          [some 30, some 31, some 32, some 33, some 34, some 35, some 36, some 37, some 38]
          [(5, .slice (some ⟨g1, 0, none⟩) m cp), (6, .slice (some ⟨g2, 0, none⟩) m cq), (7, .int .i64 (k : Int))]
          [[], [], [.slot 0, .slot 1], [.slot 2], [], [], [.slot 4, .slot 5], [.slot 6], [.slot 3, .slot 7]]
          [.slot 8] [30, 31, 32, 33, 34, 35, 36, 37, 38]
          rfl (by kernel_rfl) ⟨rfl, rfl, rfl, trivial⟩ (hB.drew) (Nat.le_refl _) trivial trivial (below_Gc7 (by have := hB.size; omega))
          ⟨
            (fun Q aq ww own hS hBg fr kn => .inl ⟨trivial, fun K hK => wp_value (exec_move rfl fr.1) (hK _ _ ⟨Touch.refl _ _, rfl⟩)⟩),
            (fun Q aq ww own hS hBg fr kn => .inl ⟨trivial, fun K hK => wp_value (exec_move rfl fr.2.2.1) (hK _ _ ⟨Touch.refl _ _, rfl⟩)⟩),
            (fun Q aq ww own hS hBg fr kn => .inl ⟨trivial, fun K hK => wp_value (exec_ixT (i := k) rfl kn.1 kn.2.1 hlt) (hK _ _ ⟨Touch.refl _ _, rfl⟩)⟩),
            (fun Q aq ww own hS hBg fr kn => .inl ⟨trivial, fun K hK => wp_value (exec_ldT (j := k) rfl kn.1 (H1.out ww hS k hlt)) (hK _ _ ⟨Touch.refl _ _, rfl⟩)⟩),
            (fun Q aq ww own hS hBg fr kn => .inl ⟨trivial, fun K hK => wp_value (exec_move rfl fr.2.1) (hK _ _ ⟨Touch.refl _ _, rfl⟩)⟩),
            (fun Q aq ww own hS hBg fr kn => .inl ⟨trivial, fun K hK => wp_value (exec_move rfl fr.2.2.1) (hK _ _ ⟨Touch.refl _ _, rfl⟩)⟩),
            (fun Q aq ww own hS hBg fr kn => .inl ⟨trivial, fun K hK => wp_value (exec_ixT (i := k) rfl kn.1 kn.2.1 hlt) (hK _ _ ⟨Touch.refl _ _, rfl⟩)⟩),
            (fun Q aq ww own hS hBg fr kn => .inl ⟨trivial, fun K hK => wp_value (exec_ldT (j := k) rfl kn.1 (H2.out ww hS k hlt)) (hK _ _ ⟨Touch.refl _ _, rfl⟩)⟩),
            (fun Q aq ww own hS hBg fr kn => .inl ⟨trivial, fun K hK => wp_value (exec_neqT rfl kn.1 kn.2.1) (hK _ _ ⟨Touch.refl _ _, rfl⟩)⟩),
            trivial⟩ ?_
      intro vs own u9 hQ hsz kn inj
      have e38 : vs 38 = .bool false := kn.1
      clear kn inj hsz
      simp only [putAll, Act.put, List.setIfInBounds_toArray, List.set_cons_zero, List.set_cons_succ, e38]
      clear e38
      go_wp2_with fail
      go_roundg (m - (k + 1))
      case rel => exact ⟨k + 1, rfl, by omega, by go_num, hQ⟩
      case measure => omega
    · have hkn : ¬ (k : Int) < (m : Int) := by omega
      have hkd : decide ((k : Int) < (m : Int)) = false := decide_eq_false hkn
      go_wp2_with fail
      go_ret
      exact ⟨rfl, hB04.trans (hB.mono hB04.size)⟩
end Go.Proofs.YtbkbcfimpaolmaaGreat
