/-
  Own text. FragBounds: whatever pieces come, no more than 8 heaps are kept, and no more than 8 times 65535 bytes.
-/
import Derived.Test.YthnlfjkpiohooaaJ9
namespace Go.Proofs.Ythnlfjkpiohooaa
open Go.RowKit Go.Proofs
set_option maxRecDepth 100000
theorem opV14_one {X : Op14} (h : X.v.oneCell' = true) (j : Nat) : (opV14 X j).oneCell' = true := by
  unfold opV14
  split
  · rfl
  · split
    · rfl
    · split
      · exact tgV_one _
      · exact pkV_one h _
theorem exK_lt {w : World} {v : Value} {l : List Ex} (h : ExAt w v l) {k : Nat} (hk : exK v = some k) : k < w.heap.size := by
  obtain ⟨a, cap, rfl, h⟩ := h
  cases l with
  | nil => cases a <;> simp [exK] at hk
  | cons x l =>
    obtain ⟨ad, rfl, hl, _⟩ := h 0 x rfl
    have e : ad.block = k := by simpa [exK] using hk
    omega
theorem ExAt.keep {w w' : World} {v : Value} {l : List Ex} (h : ExAt w v l) (e : ∀ k, k < w.heap.size → w'.heap[k]? = w.heap[k]?) : ExAt w' v l := h.blk (fun k hk => e k (exK_lt h hk))
theorem exec_neBB {a : Act} {o : Oper} {w : World} {x y : Operand} {z : Bool} (ho : o.op = .binOp .neq 4 x y 4) (hx : a.eval x = .bool z) (hy : a.eval y = .bool z) : (execOp a.eval o).run Try.prog w = .ok (.value (.bool false)) w := by
  unfold execOp
  simp only [ho, hx, hy]
  cases z <;> simp [go_sem]
theorem exec_neSE {a : Act} {o : Oper} {w : World} {x y : Operand} (ho : o.op = .binOp .neq 9 x y 9) (hx : a.eval x = .string ByteArray.empty) (hy : a.eval y = .string ByteArray.empty) : (execOp a.eval o).run Try.prog w = .ok (.value (.bool false)) w := exec_neqS ho hx hy rfl
theorem exec_eqW {a : Act} {o : Oper} {w : World} {x y : Operand} (ho : o.op = .binOp .eql 3 x y 3) {m n : Int} {z : Bool} (hx : a.eval x = .int .i64 m) (hy : a.eval y = .int .i64 n) (hz : decide (m = n) = z) : (execOp a.eval o).run Try.prog w = .ok (.value (.bool z)) w := hz ▸ cmp_eq ho hx hy
theorem below_spares {n : Nat} {w w' : World} (h : Spares (fun k => k < n) w w') (hn : n ≤ w.heap.size) : Below n w w' := ⟨h.os, h.tape, h.output, h.size, keep_spares h hn⟩
/-- What is so of every box. -/
theorem box_bounds {b : Bx} (h : InvB b) : b.hs.length ≤ 8 ∧ heldF b.hs ≤ b.hs.length * 65535 ∧ b.hs.length ≤ heldF b.hs ∧ decide (nextV b < 0) = decide ((b.hs.length : Int) = 0) := by
  have h1 := heldF_le h.ok
  refine ⟨h.few, h1.1, h1.2, ?_⟩
  unfold nextV
  cases hh : b.hs with
  | nil => rfl
  | cons c l =>
    have h2 := (h.ok c (by rw [hh]; simp)).1
    have e1 : ¬ (c.born + 30000 < 0) := by omega
    have e2 : ¬ (((c :: l).length : Int) = 0) := by simp only [List.length_cons]; omega
    simp only [decide_eq_false e1, decide_eq_false e2]
theorem isOp : IsSt 53 50 := ⟨_, Try.underlying53, rfl, by kernel_rfl⟩
theorem zeroOp (w : World) : (zeroValue 53).run Try.prog w = .ok (.agg (SC 50 (opV14 ⟨false, 0, 0, 0, zeroP, .slice none 0 0⟩))) w := by kernel_rfl
theorem exec_ixO {a : Act} {o : Oper} {w : World} {x y : Operand} (ho : o.op = .indexAddr 51 x y) {p : Addr} {n c i : Nat} (hx : a.eval x = .slice (some p) n c) (hy : a.eval y = .int .i64 (i : Int)) (hi : i < n) : (execOp a.eval o).run Try.prog w = .ok (.value (.pointer (some (p.add (50 * i))))) w := by
  unfold execOp
  simp only [ho, hx, hy, Sem.run_bind]
  rw [run_indexAt_slice w 51 _ n c .i64 (i : Int) Try.underlying51, if_pos ⟨by omega, by omega⟩]
  have e : (sizeOf (Try.prog.elem 51)).run Try.prog w = .ok 50 w := by kernel_rfl
  simp [e, Nat.mul_comm]
theorem exec_lenO {a : Act} {o : Oper} {w : World} {x : Operand} (ho : o.op = .call { callee := .builtin .len, args := #[x], argTypes := #[51] }) {ad : Option Addr} {n c : Nat} (hx : a.eval x = .slice ad n c) : (execOp a.eval o).run Try.prog w = .ok (.value (.int .i64 (n : Int))) w := by
  have hr : (Builtin.len_ #[51] o.type #[.slice ad n c]).run Try.prog w = .ok (goInt n) w := by simp [go_sem]
  simp [execOp, ho, resolve, invoke, builtin, hx, hr, goInt]
theorem ld_row {w : World} {ty : TypeId} {n : Nat} {V : Nat → Value} {p : Addr} (hT : IsSt ty n) (h : ∀ k, k < n → w.cell? (p.add k) = some (V k)) : (Instr.loadAt ty (.pointer (some p))).run Try.prog w = .ok (.agg (SC n V)) w := by
  obtain ⟨u, h1, h2, h3⟩ := hT
  refine run_loadAt_addr w p ty ((List.range n).map V) _ (fun j y hj => ?_) h1 (by cases u <;> first | rfl | exact h2) (by rw [List.length_map, List.length_range]; exact h3)
  rw [List.getElem?_map] at hj
  have hl : j < n := by
    rcases Nat.lt_or_ge j n with h | h
    · exact h
    · rw [List.getElem?_eq_none (by simpa using h)] at hj; cases hj
  rw [List.getElem?_range hl] at hj
  rw [h j hl]
  exact hj
theorem op_now {w : World} {g : Nat} {X : Op14} (h : SAt w g 53 50 (opV14 X)) : w.cell? ⟨g, 1, none⟩ = some (.int .i64 X.now) := h.at 1 (by decide)
theorem op_tag {w : World} {g : Nat} {X : Op14} (h : SAt w g 53 50 (opV14 X)) : (Instr.loadAt 45 (.pointer (some ⟨g, 2, none⟩))).run Try.prog w = .ok (.agg (SC 2 (tgV X.t0 X.e0))) w := by
  refine ld_row isTg (fun k hk => ?_)
  rw [Addr.add_lit, h.at (2 + k) (by omega)]
  unfold opV14
  rw [if_neg (by omega), if_neg (by omega), if_pos (by omega), Nat.add_sub_cancel_left]
theorem op_pk {w : World} {g : Nat} {X : Op14} (h : SAt w g 53 50 (opV14 X)) : (Instr.loadAt 27 (.pointer (some ⟨g, 4, none⟩))).run Try.prog w = .ok (.agg (SC 46 (pkV X.P X.v))) w := by
  refine ld_row isPk (fun k hk => ?_)
  rw [Addr.add_lit, h.at (4 + k) (by omega)]
  unfold opV14
  rw [if_neg (by omega), if_neg (by omega), if_neg (by omega), Nat.add_sub_cancel_left]
def opO (k : Nat) : Nat := if k < 3 then k else 4
theorem exec_fop (k f : Nat) (hk : k < 4) (hf : opO k = f) {a : Act} {o : Oper} {w : World} {x : Operand} (ho : o.op = .fieldAddr 53 x k) {g : Nat} (hx : a.eval x = .pointer (some ⟨g, 0, none⟩)) : (execOp a.eval o).run Try.prog w = .ok (.value (.pointer (some ⟨g, f, none⟩))) w := by
  subst hf
  have h : (Instr.fieldAt 53 (.pointer (some ⟨g, 0, none⟩)) k).run Try.prog w = .ok (.pointer (some ⟨g, opO k, none⟩)) w := by
    match k, hk with
    | 0, _ => simp [go_sem, opO]
    | 1, _ => simp [go_sem, opO]
    | 2, _ => simp [go_sem, opO]
    | 3, _ => simp [go_sem, opO]
  unfold execOp
  simp only [ho, hx, Sem.run_bind, h, Result.andThen_ok, Sem.run_pure]
set_option maxHeartbeats 16000000 in
theorem bounds_walk (vs : Value) (n : Nat) (X : Nat → Op14) (w : World) (h : OpsAt14 w vs n X) (hn : n ≤ 4611686018427387000) (hP : ∀ j, j < n → PkIn (X j).P) : Calls Try.prog 5 #[vs] w fun e w' => e = .returned (.bool true) ∧ Below w.heap.size w w' := by
  obtain ⟨p, cap, rfl, hc⟩ := h
  have HC := Hid.mk hc
  have HP := Hid.mk hP
  clear hc hP
  go_enter Try.func5, Try.ntmps5
  go_wp2_with (go_at_call 7; refine (awake14_run _).mono ?_; rintro e u1 ⟨rfl, hB1⟩; refine Hid.out ?_)
  refine Hid.mk ?_
  go_wp2_with (go_at_call 13; refine (New_run _).mono ?_; rintro e u2 ⟨⟨g, rfl, hg, sg⟩, hB2⟩; refine Hid.out ?_)
  refine Hid.mk ?_
  have HB0 := Hid.mk (box_new (B := 0) (N := fun k => k < w.heap.size) sg (Nat.zero_le _) (by have := hB1.size; omega))
  have HS0 : Hid (Spares (fun k => k < w.heap.size) w u2) := Hid.mk (spares_below (hB1.trans (hB2.mono hB1.size)))
  clear sg hg hB1 hB2
  go_wp2_with fail
  go_loopg [5] n (fun gm s5 z => ∃ (i : Nat) (mv : Value) (b : Bx) (bg : Int) (cs : List Ch), Hid (gm + i = n) ∧ s5 = .int .i64 (i : Int) ∧ Hid (BoxAt z 0 (fun k => k < w.heap.size) g mv b bg cs ∧ bg ≤ (i : Int)) ∧ Hid (Spares (fun k => k < w.heap.size) w z))
  case atStart => exact ⟨0, _, _, _, _, Hid.mk (by omega), rfl, Hid.mk ⟨HB0.out, Int.le_refl _⟩, HS0⟩
  case round =>
    obtain ⟨i, mv, b, bg, cs, HI, rfl, HBX, HSP⟩ := hrel
    by_cases hlt : i < n
    · have hltI : (i : Int) < (n : Int) := by omega
      obtain ⟨i1, hi1⟩ : ∃ i1, i + 1 = i1 := ⟨_, rfl⟩
      have HPI := Hid.mk (HP.out i hlt)
      obtain ⟨ad, rfl, had, hcell, hex⟩ := HC.out i hlt
      go_wp2_with (refine wl_value rfl (exec_lenO rfl rfl) ?_; refine Hid.out ?_)
      refine Hid.mk ?_
      go_wp2_with (refine wl_value rfl (exec_ltT (m := (i : Int)) (n := (n : Int)) rfl rfl rfl hltI) ?_; refine Hid.out ?_)
      refine Hid.mk ?_
      have HLD : Hid ((Instr.loadAt 53 (.pointer (some (ad.add (50 * i))))).run Try.prog wr = .ok (.agg (SC 50 (opV14 (X i)))) wr) := Hid.mk (ld_row isOp (fun k hk => by
        rw [Addr.add_add]
        exact (cell_blk (by rw [add_blk]; exact keep_spares HSP.out (Nat.le_refl _) _ had)).trans (hcell k hk)))
      have HEX := Hid.mk (hex.keep (keep_spares HSP.out (Nat.le_refl _)))
      have HEV : Hid (∀ q, exK (X i).v = some q → q < w.heap.size) := Hid.mk (fun q hq => exK_lt hex hq)
      have HZ : Hid (w.heap.size ≤ wr.heap.size) := Hid.mk HSP.out.size
      clear hcell hex had
      generalize X i = Y at *
      have hy1 : Y.v.oneCell' = true := HEX.out.one
      go_wp2_with (refine wl_value rfl (exec_ixO (i := i) rfl rfl rfl hlt) ?_; refine Hid.out ?_)
      refine Hid.mk ?_
      go_wp2_with (refine wl_value rfl (exec_ld rfl rfl HLD.out) ?_; refine Hid.out ?_)
      refine Hid.mk ?_
      go_wp2_with (refine wl_alO rfl rfl zeroOp ?_; intro g6 z1 hg6 s6 hB6; refine Hid.out ?_)
      refine Hid.mk ?_
      go_wp2_with (refine st_stO (V := opV14 Y) (g := g6) rfl rfl isOp (opV14_one hy1) s6 rfl rfl ?_; intro z2 s6 ho6; refine Hid.out ?_)
      refine Hid.mk ?_
      have HBX2 := Hid.mk (HBX.out.1.local hB6 hg6 ho6)
      have HBG := Hid.mk HBX.out.2
      have HLO := Spares.local hB6 hg6 HZ.out ho6
      have HSP2 := Hid.mk (HSP.out.trans HLO)
      have HZ2 : Hid (w.heap.size ≤ z2.heap.size) := Hid.mk HSP2.out.size
      have HEX2 := Hid.mk (HEX.out.blk (fun k hk => keep_spares HLO HZ.out k (HEV.out k hk)))
      clear HBX HSP HEX HLO hB6 ho6 hg6 HZ
      go_wp2_with (refine wl_value rfl (exec_fop 1 1 (by decide) rfl rfl rfl) ?_; refine Hid.out ?_)
      refine Hid.mk ?_
      go_wp2_with (refine wl_value rfl (exec_ld rfl rfl (ldP (op_now s6))) ?_; refine Hid.out ?_)
      refine Hid.mk ?_
      go_wp2_with (refine wl_value rfl (exec_fop 2 2 (by decide) rfl rfl rfl) ?_; refine Hid.out ?_)
      refine Hid.mk ?_
      go_wp2_with (refine wl_value rfl (exec_ld rfl rfl (op_tag s6)) ?_; refine Hid.out ?_)
      refine Hid.mk ?_
      go_wp2_with (refine wl_value rfl (exec_fop 3 4 (by decide) rfl rfl rfl) ?_; refine Hid.out ?_)
      refine Hid.mk ?_
      go_wp2_with (refine wl_value rfl (exec_ld rfl rfl (op_pk s6)) ?_; refine Hid.out ?_)
      refine Hid.mk ?_
      have HTO := Hid.mk (told_take HBX2.out.inv Y.now (famOf Y.t0 Y.e0 Y.P) Y.P)
      obtain ⟨o, ho⟩ : ∃ o, (takeF b Y.now (famOf Y.t0 Y.e0 Y.P) Y.P).1 = o := ⟨_, rfl⟩
      obtain ⟨b2, hb2⟩ : ∃ b2, (takeF b Y.now (famOf Y.t0 Y.e0 Y.P) Y.P).2 = b2 := ⟨_, rfl⟩
      rw [ho] at HTO
      have HTK := Hid.mk (TakeO_run HBX2.out HZ2.out HEX2.out HEV.out HPI.out.len HPI.out.b HPI.out.p (by have := HBG.out; omega) ho hb2)
      clear ho hb2
      go_wp2_with (go_at_call 17; refine HTK.out.mono ?_; rintro e z3 ⟨Q, v2, mv2, bg2, cs2, rfl, ho1, hcase, hbx, hbg2, hsp⟩; refine Hid.out ?_)
      refine Hid.mk ?_
      have HSP3 := Hid.mk (HSP2.out.trans hsp)
      have HZ3 : Hid (w.heap.size ≤ z3.heap.size) := Hid.mk HSP3.out.size
      have HBG3 : Hid (bg2 ≤ (i1 : Int)) := Hid.mk (by have := HBG.out; omega)
      have HBD := Hid.mk (box_bounds hbx.inv)
      clear HTK HBX2 HEX2 HEV HPI HSP2 HZ2 s6
      have HCA := Hid.mk hcase
      clear hcase
      go_wp2_with (refine wl_alO rfl rfl zeroPk ?_; intro g7 z4 hg7 s7 hB7; refine Hid.out ?_)
      refine Hid.mk ?_
      go_wp2_with (refine st_stO (V := pkV Q v2) (g := g7) rfl rfl isPk (pkV_one ho1) s7 rfl rfl ?_; intro z5 s7 ho7; refine Hid.out ?_)
      refine Hid.mk ?_
      have HBX5 := Hid.mk (hbx.local hB7 hg7 ho7)
      have HSP5 := Hid.mk (HSP3.out.trans (Spares.local hB7 hg7 HZ3.out ho7))
      have HEX5 : Hid (o = some Q ∧ ExAt z5 v2 Q.exts ∨ o = none ∧ Q = zeroP ∧ v2 = .slice none 0 0) := Hid.mk (HCA.out.imp_left (fun ⟨h1, h2⟩ => ⟨h1, h2.blk (fun k hk => by
        have h3 := exK_lt h2 hk
        exact (ho7.block k (by omega)).trans (hB7.block k h3))⟩))
      obtain ⟨nw, hnw⟩ : ∃ nw, b2.hs.length = nw := ⟨_, rfl⟩
      obtain ⟨nh, hnh⟩ : ∃ nh, heldF b2.hs = nh := ⟨_, rfl⟩
      obtain ⟨nx, hnx⟩ : ∃ nx, nextV b2 = nx := ⟨_, rfl⟩
      have HWA : Hid (∀ z, BoxAt z 0 (fun k => k < w.heap.size) g mv2 b2 bg2 cs2 → Calls Try.prog 18 #[.pointer (some ⟨g, 0, none⟩)] z fun e w' => e = .returned (.int .i64 (nw : Int)) ∧ Below z.heap.size z w') := Hid.mk (fun z hz => hnw ▸ Waiting_run hz)
      have HHE : Hid (∀ z, BoxAt z 0 (fun k => k < w.heap.size) g mv2 b2 bg2 cs2 → Calls Try.prog 19 #[.pointer (some ⟨g, 0, none⟩)] z fun e w' => e = .returned (.int .i64 (nh : Int)) ∧ Below z.heap.size z w') := Hid.mk (fun z hz => hnh ▸ Held_run hz)
      have HNX : Hid (∀ z, BoxAt z 0 (fun k => k < w.heap.size) g mv2 b2 bg2 cs2 → Calls Try.prog 20 #[.pointer (some ⟨g, 0, none⟩)] z fun e w' => e = .returned (.int .i64 nx) ∧ Below z.heap.size z w') := Hid.mk (fun z hz => hnx ▸ Next_run hz)
      rw [hnw, hnh, hnx] at HBD
      obtain ⟨zz, hzz⟩ : ∃ zz, decide ((nw : Int) = 0) = zz := ⟨_, rfl⟩
      have HZZ := Hid.mk hzz
      have HZY : Hid (decide (nx < 0) = zz) := Hid.mk (HBD.out.2.2.2.trans hzz)
      clear hbx hB7 ho7 hg7 ho1 HCA hnw hnh hnx hzz hsp hbg2
      have hE10 : ((o.isSome && ((((!(rgtP Q)) || Q.more) || (decide (0 < Q.off))) || Q.cut)) || ((!o.isSome) && (!decide (Q.pay = ByteArray.empty)))) = false := by
        rcases HEX5.out with ⟨h1, _⟩ | ⟨h1, h2, _⟩
        · obtain ⟨t1, t2, t3, t4⟩ := HTO.out Q h1
          subst h1
          simp [t1, t2, t3, t4]
        · subst h1 h2
          simp [zeroP]
      have HRI : Hid (∀ z, Below z5.heap.size z5 z → Calls Try.prog 15 #[.agg (SC 46 (pkV Q v2))] z fun e w' => e = .returned (.bool (rgtP Q)) ∧ Below z.heap.size z w') := Hid.mk (fun z hz => by
        rcases HEX5.out with ⟨h1, h2⟩ | ⟨_, h2, h3⟩
        · obtain ⟨t1, _⟩ := HTO.out Q h1
          exact Right_run Q v2 z (h2.kept hz) (rgt_len t1).1 (rgt_bod t1)
        · subst h2 h3
          exact Right_run zeroP _ z (ExAt.nil z) (by decide) (fun x hx => by cases hx))
      clear HTO HEX5
      go_upto_region 10 with fail
      refine wp_plain_steps (Below z5.heap.size z5) (fun v v' => Below v.heap.size v v') (fun j vv _ => vv = ([.bool o.isSome, .bool o.isSome, gv o.isSome (.agg (SC 46 (pkV Q v2))), gv o.isSome (.bool (rgtP Q)), gv o.isSome (.bool (!(rgtP Q))), gv o.isSome (.bool (!(rgtP Q))), gv (o.isSome && (!(!(rgtP Q)))) (.pointer (some ⟨g7, 39, none⟩)), gv (o.isSome && (!(!(rgtP Q)))) (.bool Q.more), gv o.isSome (.bool ((!(rgtP Q)) || Q.more)), gv o.isSome (.bool ((!(rgtP Q)) || Q.more)), gv (o.isSome && (!((!(rgtP Q)) || Q.more))) (.pointer (some ⟨g7, 38, none⟩)), gv (o.isSome && (!((!(rgtP Q)) || Q.more))) (.int .i64 Q.off), gv (o.isSome && (!((!(rgtP Q)) || Q.more))) (.bool (decide (0 < Q.off))), gv o.isSome (.bool (((!(rgtP Q)) || Q.more) || (decide (0 < Q.off)))), gv o.isSome (.bool (((!(rgtP Q)) || Q.more) || (decide (0 < Q.off)))), gv (o.isSome && (!(((!(rgtP Q)) || Q.more) || (decide (0 < Q.off))))) (.pointer (some ⟨g7, 44, none⟩)), gv (o.isSome && (!(((!(rgtP Q)) || Q.more) || (decide (0 < Q.off))))) (.bool Q.cut), gv o.isSome (.bool ((((!(rgtP Q)) || Q.more) || (decide (0 < Q.off))) || Q.cut)), .bool (o.isSome && ((((!(rgtP Q)) || Q.more) || (decide (0 < Q.off))) || Q.cut)), .bool (o.isSome && ((((!(rgtP Q)) || Q.more) || (decide (0 < Q.off))) || Q.cut)), gv (!(o.isSome && ((((!(rgtP Q)) || Q.more) || (decide (0 < Q.off))) || Q.cut))) (.bool o.isSome), gv (!(o.isSome && ((((!(rgtP Q)) || Q.more) || (decide (0 < Q.off))) || Q.cut))) (.bool (!o.isSome)), gv (!(o.isSome && ((((!(rgtP Q)) || Q.more) || (decide (0 < Q.off))) || Q.cut))) (.bool (!o.isSome)), gv ((!(o.isSome && ((((!(rgtP Q)) || Q.more) || (decide (0 < Q.off))) || Q.cut))) && (!o.isSome)) (.pointer (some ⟨g7, 45, none⟩)), gv ((!(o.isSome && ((((!(rgtP Q)) || Q.more) || (decide (0 < Q.off))) || Q.cut))) && (!o.isSome)) (.string Q.pay), gv ((!(o.isSome && ((((!(rgtP Q)) || Q.more) || (decide (0 < Q.off))) || Q.cut))) && (!o.isSome)) (.bool (!decide (Q.pay = ByteArray.empty))), gv (!(o.isSome && ((((!(rgtP Q)) || Q.more) || (decide (0 < Q.off))) || Q.cut))) (.bool ((!o.isSome) && (!decide (Q.pay = ByteArray.empty)))), .bool ((o.isSome && ((((!(rgtP Q)) || Q.more) || (decide (0 < Q.off))) || Q.cut)) || ((!o.isSome) && (!decide (Q.pay = ByteArray.empty))))] : List Value).getD j undef)
          [35, 36, 37, 38, 39, 40, 41, 42, 43, 44, 45, 46, 47, 48, 49, 50, 51, 52, 53, 54, 55, 56, 57, 58, 59, 60, 61, 62]
          [(8, .bool o.isSome), (7, .pointer (some ⟨g7, 0, none⟩))] [] 0
          [[], [0], [1], [1, 2], [1, 3], [1, 4], [5], [5, 6], [1, 5, 7], [1, 8], [9], [9, 10], [9, 11], [1, 9, 12], [1, 13], [14], [14, 15], [1, 14, 16], [1, 17], [18], [19], [19, 20], [19, 21], [22], [22, 23], [22, 24], [19, 22, 25], [19, 26]]
          (by kernel_rfl) ⟨rfl, rfl, trivial⟩ trivial (Below.refl _ _) (fun v v' h hb => h.trans (hb.mono h.size)) (fun _ _ _ _ h _ => h)
          ⟨
          (fun QQ aa ww hS fr kn => sg0 rfl (fun K hK => wp_value (exec_move rfl fr.1) (hK _ _ rfl (Below.refl _ _)))),
          (fun QQ aa ww hS fr kn => sg0 rfl (fun K hK => wp_value (exec_move rfl kn.1) (hK _ _ rfl (Below.refl _ _)))),
          (fun QQ aa ww hS fr kn => sgT rfl kn.1 (fun hc K hK => wp_value (look_st rfl isPk (SAt.kept s7 hS) fr.2.1) (hK _ _ (gv_t hc).symm (Below.refl _ _))) (fun h0 => (gv_f h0).symm)),
          (fun QQ aa ww hS fr kn => sgT rfl kn.1 (fun hc K hK => stepc en_Right rfl (args1 (kn.2.1.trans (gv_t hc))) (HRI.out ww hS) (fun w' hb => hK _ _ (gv_t hc).symm hb)) (fun h0 => (gv_f h0).symm)),
          (fun QQ aa ww hS fr kn => sgT rfl kn.1 (fun hc K hK => wp_value (exec_notB rfl (kn.2.1.trans (gv_t hc))) (hK _ _ (gv_t hc).symm (Below.refl _ _))) (fun h0 => (gv_f h0).symm)),
          (fun QQ aa ww hS fr kn => sgT rfl kn.1 (fun hc K hK => wp_value (exec_move rfl (kn.2.1.trans (gv_t hc))) (hK _ _ (gv_t hc).symm (Below.refl _ _))) (fun h0 => (gv_f h0).symm)),
          (fun QQ aa ww hS fr kn => sgTF rfl kn.1 (fun hc K hK => wp_value (exec_fpk 7 (by decide) rfl fr.2.1) (hK _ _ (gv_t hc).symm (Below.refl _ _))) (fun h0 => (gv_f h0).symm)),
          (fun QQ aa ww hS fr kn => sgTF rfl kn.1 (fun hc K hK => wp_value (exec_ld rfl (kn.2.1.trans (gv_t hc)) (ldPb (pk_more (SAt.kept s7 hS)))) (hK _ _ (gv_t hc).symm (Below.refl _ _))) (fun h0 => (gv_f h0).symm)),
          (fun QQ aa ww hS fr kn => sgT rfl kn.1 (fun hc K hK => wp_value (exec_pickOr rfl (kn.2.1.trans (gv_t hc)) rfl (fun hx => kn.2.2.1.trans (gv_t (an_t hc (nt_t hx))))) (hK _ _ (gv_t hc).symm (Below.refl _ _))) (fun h0 => (gv_f h0).symm)),
          (fun QQ aa ww hS fr kn => sgT rfl kn.1 (fun hc K hK => wp_value (exec_move rfl (kn.2.1.trans (gv_t hc))) (hK _ _ (gv_t hc).symm (Below.refl _ _))) (fun h0 => (gv_f h0).symm)),
          (fun QQ aa ww hS fr kn => sgTF rfl kn.1 (fun hc K hK => wp_value (exec_fpk 6 (by decide) rfl fr.2.1) (hK _ _ (gv_t hc).symm (Below.refl _ _))) (fun h0 => (gv_f h0).symm)),
          (fun QQ aa ww hS fr kn => sgTF rfl kn.1 (fun hc K hK => wp_value (exec_ld rfl (kn.2.1.trans (gv_t hc)) (ldP (pk_off (SAt.kept s7 hS)))) (hK _ _ (gv_t hc).symm (Below.refl _ _))) (fun h0 => (gv_f h0).symm)),
          (fun QQ aa ww hS fr kn => sgTF rfl kn.1 (fun hc K hK => wp_value (cmp_gt (m := Q.off) (n := 0) rfl (kn.2.1.trans (gv_t hc)) rfl) (hK _ _ (gv_t hc).symm (Below.refl _ _))) (fun h0 => (gv_f h0).symm)),
          (fun QQ aa ww hS fr kn => sgT rfl kn.1 (fun hc K hK => wp_value (exec_pickOr rfl (kn.2.1.trans (gv_t hc)) rfl (fun hx => kn.2.2.1.trans (gv_t (an_t hc (nt_t hx))))) (hK _ _ (gv_t hc).symm (Below.refl _ _))) (fun h0 => (gv_f h0).symm)),
          (fun QQ aa ww hS fr kn => sgT rfl kn.1 (fun hc K hK => wp_value (exec_move rfl (kn.2.1.trans (gv_t hc))) (hK _ _ (gv_t hc).symm (Below.refl _ _))) (fun h0 => (gv_f h0).symm)),
          (fun QQ aa ww hS fr kn => sgTF rfl kn.1 (fun hc K hK => wp_value (exec_fpk 12 (by decide) rfl fr.2.1) (hK _ _ (gv_t hc).symm (Below.refl _ _))) (fun h0 => (gv_f h0).symm)),
          (fun QQ aa ww hS fr kn => sgTF rfl kn.1 (fun hc K hK => wp_value (exec_ld rfl (kn.2.1.trans (gv_t hc)) (ldPb (pk_cut (SAt.kept s7 hS)))) (hK _ _ (gv_t hc).symm (Below.refl _ _))) (fun h0 => (gv_f h0).symm)),
          (fun QQ aa ww hS fr kn => sgT rfl kn.1 (fun hc K hK => wp_value (exec_pickOr rfl (kn.2.1.trans (gv_t hc)) rfl (fun hx => kn.2.2.1.trans (gv_t (an_t hc (nt_t hx))))) (hK _ _ (gv_t hc).symm (Below.refl _ _))) (fun h0 => (gv_f h0).symm)),
          (fun QQ aa ww hS fr kn => sg0 rfl (fun K hK => wp_value (exec_pickAnd rfl kn.1 (fun hx => kn.2.1.trans (gv_t hx)) rfl) (hK _ _ rfl (Below.refl _ _)))),
          (fun QQ aa ww hS fr kn => sg0 rfl (fun K hK => wp_value (exec_move rfl kn.1) (hK _ _ rfl (Below.refl _ _)))),
          (fun QQ aa ww hS fr kn => sgF rfl kn.1 (fun hng K hK => have hc := nt_t hng; wp_value (exec_move rfl fr.1) (hK _ _ (gv_t hc).symm (Below.refl _ _))) (fun h0 => (gv_f (nt_f h0)).symm)),
          (fun QQ aa ww hS fr kn => sgF rfl kn.1 (fun hng K hK => have hc := nt_t hng; wp_value (exec_notB rfl (kn.2.1.trans (gv_t hc))) (hK _ _ (gv_t hc).symm (Below.refl _ _))) (fun h0 => (gv_f (nt_f h0)).symm)),
          (fun QQ aa ww hS fr kn => sgF rfl kn.1 (fun hng K hK => have hc := nt_t hng; wp_value (exec_move rfl (kn.2.1.trans (gv_t hc))) (hK _ _ (gv_t hc).symm (Below.refl _ _))) (fun h0 => (gv_f (nt_f h0)).symm)),
          (fun QQ aa ww hS fr kn => sgTT rfl kn.1 (fun hc K hK => wp_value (exec_fpk 13 (by decide) rfl fr.2.1) (hK _ _ (gv_t hc).symm (Below.refl _ _))) (fun h0 => (gv_f h0).symm)),
          (fun QQ aa ww hS fr kn => sgTT rfl kn.1 (fun hc K hK => wp_value (exec_ld rfl (kn.2.1.trans (gv_t hc)) (ldPs (pk_pay (SAt.kept s7 hS)))) (hK _ _ (gv_t hc).symm (Below.refl _ _))) (fun h0 => (gv_f h0).symm)),
          (fun QQ aa ww hS fr kn => sgTT rfl kn.1 (fun hc K hK => wp_value (cmp_neS (s := Q.pay) (t := ByteArray.empty) rfl (kn.2.1.trans (gv_t hc)) rfl) (hK _ _ (gv_t hc).symm (Below.refl _ _))) (fun h0 => (gv_f h0).symm)),
          (fun QQ aa ww hS fr kn => sgF rfl kn.1 (fun hng K hK => have hc := nt_t hng; wp_value (exec_pickAnd rfl (kn.2.1.trans (gv_t hc)) (fun hx => kn.2.2.1.trans (gv_t (an_t hc hx))) rfl) (hK _ _ (gv_t hc).symm (Below.refl _ _))) (fun h0 => (gv_f (nt_f h0)).symm)),
          (fun QQ aa ww hS fr kn => sg0 rfl (fun K hK => wp_value (exec_pickOr rfl kn.1 rfl (fun hx => kn.2.1.trans (gv_t (nt_t hx)))) (hK _ _ rfl (Below.refl _ _)))),
          trivial⟩ ?_
      intro vs z6 hB6 kn
      have e62 : vs 62 = .bool ((o.isSome && ((((!(rgtP Q)) || Q.more) || (decide (0 < Q.off))) || Q.cut)) || ((!o.isSome) && (!decide (Q.pay = ByteArray.empty)))) := kn 27 (by decide)
      clear kn
      simp only [putAll, Act.put, List.setIfInBounds_toArray, List.set_cons_zero, List.set_cons_succ, e62]
      clear e62
      rw [hE10]
      have HBX6 := Hid.mk (HBX5.out.kept hB6)
      have HSP6 := Hid.mk (HSP5.out.trans (spares_below hB6))
      clear hB6 HBX5 HSP5 HRI s7 hE10
      go_wp2_with (go_at_call 18; refine (HWA.out _ HBX6.out).mono ?_; rintro e z7 ⟨rfl, hB7⟩; refine Hid.out ?_)
      refine Hid.mk ?_
      have HBX7 := Hid.mk (HBX6.out.kept hB7)
      have HSP7 := Hid.mk (HSP6.out.trans (spares_below hB7))
      clear hB7 HBX6 HSP6
      go_wp2_with (refine wl_value rfl (exec_ltF (m := (nw : Int)) (n := 0) rfl rfl rfl (by omega)) ?_; refine Hid.out ?_)
      refine Hid.mk ?_
      go_wp2_with (refine wl_value rfl (exec_gtW (m := (nw : Int)) (n := 8) (z := false) rfl rfl rfl (decide_eq_false (by have := HBD.out.1; omega))) ?_; refine Hid.out ?_)
      refine Hid.mk ?_
      go_wp2_with (go_at_call 19; refine (HHE.out _ HBX7.out).mono ?_; rintro e z8 ⟨rfl, hB8⟩; refine Hid.out ?_)
      refine Hid.mk ?_
      have HBX8 := Hid.mk (HBX7.out.kept hB8)
      have HSP8 := Hid.mk (HSP7.out.trans (spares_below hB8))
      clear hB8 HBX7 HSP7
      go_wp2_with (refine wl_value rfl (exec_gtW (m := (nh : Int)) (n := 524280) (z := false) rfl rfl rfl (decide_eq_false (by have := HBD.out.1; have := HBD.out.2.1; omega))) ?_; refine Hid.out ?_)
      refine Hid.mk ?_
      go_wp2_with (go_at_call 20; refine (HNX.out _ HBX8.out).mono ?_; rintro e z9 ⟨rfl, hB9⟩; refine Hid.out ?_)
      refine Hid.mk ?_
      have HBX9 := Hid.mk (HBX8.out.kept hB9)
      have HSP9 := Hid.mk (HSP8.out.trans (spares_below hB9))
      clear hB9 HBX8 HSP8
      go_wp2_with (refine wl_value rfl (exec_ltW (m := nx) (n := 0) rfl rfl rfl HZY.out) ?_; refine Hid.out ?_)
      refine Hid.mk ?_
      go_wp2_with (refine wl_value rfl (exec_eqW (m := (nw : Int)) (n := 0) rfl rfl rfl HZZ.out) ?_; refine Hid.out ?_)
      refine Hid.mk ?_
      go_wp2_with (refine wl_value rfl (exec_neBB rfl rfl rfl) ?_; refine Hid.out ?_)
      refine Hid.mk ?_
      go_wp2_with (go_at_call 19; refine (HHE.out _ HBX9.out).mono ?_; rintro e z10 ⟨rfl, hB10⟩; refine Hid.out ?_)
      refine Hid.mk ?_
      have HBX10 := Hid.mk (And.intro (HBX9.out.kept hB10) HBG3.out)
      have HSP10 := Hid.mk (HSP9.out.trans (spares_below hB10))
      clear hB10 HBX9 HSP9
      go_wp2_with (refine wl_value rfl (exec_ltF (m := (nh : Int)) (n := (nw : Int)) rfl rfl rfl (by have := HBD.out.2.2.1; omega)) ?_; refine Hid.out ?_)
      refine Hid.mk ?_
      go_wp2_with (refine wl_value rfl (exec_addW (i := i) (m := 1) (q := i1) rfl rfl rfl hi1 (by omega)) ?_; refine Hid.out ?_)
      refine Hid.mk ?_
      go_wp2_with fail
      go_roundg (n - i1)
      case rel => exact ⟨i1, _, _, _, _, Hid.mk (by omega), rfl, HBX10, HSP10⟩
      case measure => have := HI.out; omega
    · have hltI : ¬ (i : Int) < (n : Int) := by omega
      go_wp2_with (refine wl_value rfl (exec_lenO rfl rfl) ?_; refine Hid.out ?_)
      refine Hid.mk ?_
      go_wp2_with (refine wl_value rfl (exec_ltF (m := (i : Int)) (n := (n : Int)) rfl rfl rfl hltI) ?_; refine Hid.out ?_)
      refine Hid.mk ?_
      go_wp2_with fail
      exact ⟨_, results_tmp rfl _ _ _, rfl, below_spares HSP.out (Nat.le_refl _)⟩
end Go.Proofs.Ythnlfjkpiohooaa
