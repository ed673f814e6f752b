/-
  Own text. slices.Backward of extension headers; version 6; Build of the program.
-/
import Derived.Test.YtdlepeogmjmleaaJ6
import Derived.Test.YtdlepeogmjmleaaJ2
import Derived.Recover
import Derived.WalkSmall
namespace Go.Proofs.Ytdlepeogmjmleaa
open Go.RowKit Go.Proofs
set_option maxRecDepth 100000
section
variable {a : Act} {o : Oper} {w : World} {x y : Operand}
theorem one_cell {g : Nat} {v : Value} {ty : TypeId} (h : w.heap[g]? = some (.cells #[v] ty (0, 0))) : w.cell? ⟨g, 0, none⟩ = some v ∧ w.frozen? ⟨g, 0, none⟩ = false := by
  constructor <;> simp [World.cell?, World.frozen?, h]
theorem one_set {g : Nat} {v v' : Value} {ty : TypeId} (h : w.heap[g]? = some (.cells #[v] ty (0, 0))) : (w.setCell ⟨g, 0, none⟩ v').heap[g]? = some (.cells #[v'] ty (0, 0)) := by
  rw [Lib.heap_setCell_same h]
  rfl
variable {K : Act → World → Prop} {Q : Exit → Act → World → Prop}
theorem act_oneI (ho : o.op = .store 3 x y) {g : Nat} {v0 : Value} {n : Int} (hx : a.eval x = .pointer (some ⟨g, 0, none⟩)) (hy : a.eval y = .int .i64 n) (hg : w.heap[g]? = some (.cells #[v0] 3 (0, 0)))
    (h : ∀ w', w'.heap[g]? = some (.cells #[.int .i64 n] 3 (0, 0)) → Only g w w' → K (a.put o.dst undef) w') : o.wp Try.prog a w K Q := by
  have hr : (Instr.storeAt 3 (.pointer (some ⟨g, 0, none⟩)) (.int .i64 n)).run Try.prog w = .ok () (w.setCell ⟨g, 0, none⟩ (.int .i64 n)) := by simp [go_sem, (one_cell hg).1, (one_cell hg).2]
  unfold Oper.wp execOp
  simp only [ho, hx, hy, Sem.run_bind, hr, Result.andThen_ok, Sem.run_pure, Oper.upon]
  exact h _ (one_set hg) only_set
theorem act_oneS (ho : o.op = .store 9 x y) {g : Nat} {v0 : Value} {s : ByteArray} (hx : a.eval x = .pointer (some ⟨g, 0, none⟩)) (hy : a.eval y = .string s) (hg : w.heap[g]? = some (.cells #[v0] 9 (0, 0)))
    (h : ∀ w', w'.heap[g]? = some (.cells #[.string s] 9 (0, 0)) → Only g w w' → K (a.put o.dst undef) w') : o.wp Try.prog a w K Q := by
  have hr : (Instr.storeAt 9 (.pointer (some ⟨g, 0, none⟩)) (.string s)).run Try.prog w = .ok () (w.setCell ⟨g, 0, none⟩ (.string s)) := by simp [go_sem, (one_cell hg).1, (one_cell hg).2]
  unfold Oper.wp execOp
  simp only [ho, hx, hy, Sem.run_bind, hr, Result.andThen_ok, Sem.run_pure, Oper.upon]
  exact h _ (one_set hg) only_set
variable {ops : Array Oper} {rest : List Oper}
theorem wl_oneI (ho : o.op = .store 3 x y) (hw : Region.wanted o (yielded ops a.tmps) = true) {g : Nat} {v0 : Value} {n : Int} (hx : a.eval x = .pointer (some ⟨g, 0, none⟩)) (hy : a.eval y = .int .i64 n) (hg : w.heap[g]? = some (.cells #[v0] 3 (0, 0)))
    (h : ∀ w', w'.heap[g]? = some (.cells #[.int .i64 n] 3 (0, 0)) → Only g w w' → wpList Try.prog ops Q rest (a.put o.dst undef) w') : wpList Try.prog ops Q (o :: rest) a w := wl_act hw (act_oneI ho hx hy hg h)
theorem wl_oneS (ho : o.op = .store 9 x y) (hw : Region.wanted o (yielded ops a.tmps) = true) {g : Nat} {v0 : Value} {s : ByteArray} (hx : a.eval x = .pointer (some ⟨g, 0, none⟩)) (hy : a.eval y = .string s) (hg : w.heap[g]? = some (.cells #[v0] 9 (0, 0)))
    (h : ∀ w', w'.heap[g]? = some (.cells #[.string s] 9 (0, 0)) → Only g w w' → wpList Try.prog ops Q rest (a.put o.dst undef) w') : wpList Try.prog ops Q (o :: rest) a w := wl_act hw (act_oneS ho hx hy hg h)
theorem wl_alI (ho : o.op = .alloc 3) (hw : Region.wanted o (yielded ops a.tmps) = true)
    (h : ∀ g w', w.heap.size ≤ g → w'.heap[g]? = some (.cells #[.int .i64 0] 3 (0, 0)) → Below w.heap.size w w' → wpList Try.prog ops Q rest (a.put o.dst (.pointer (some ⟨g, 0, none⟩))) w') : wpList Try.prog ops Q (o :: rest) a w := by
  refine wl_act hw ?_
  unfold Oper.wp execOp
  simp only [ho]
  simp [go_sem]
  exact h _ _ (Nat.le_refl _) (heap_alloc_new w _) ((Below.refl _ w).alloc (Nat.le_refl _) _)
theorem wl_alS (ho : o.op = .alloc 9) (hw : Region.wanted o (yielded ops a.tmps) = true)
    (h : ∀ g w', w.heap.size ≤ g → w'.heap[g]? = some (.cells #[.string ByteArray.empty] 9 (0, 0)) → Below w.heap.size w w' → wpList Try.prog ops Q rest (a.put o.dst (.pointer (some ⟨g, 0, none⟩))) w') : wpList Try.prog ops Q (o :: rest) a w := by
  refine wl_act hw ?_
  unfold Oper.wp execOp
  simp only [ho]
  simp [go_sem]
  exact h _ _ (Nat.le_refl _) (heap_alloc_new w _) ((Below.refl _ w).alloc (Nat.le_refl _) _)
end
theorem tou_below {T : Nat → Prop} {B : Nat} {w w' : World} (h : Touch T w w') (hT : ∀ k, T k → B ≤ k) (hB : B ≤ w.heap.size) : Below B w w' :=
  ⟨h.os, h.tape, h.output, h.size, fun k hk => h.block k (by omega) (fun e => by have := hT k e; omega)⟩
def exZ : Ex := ⟨0, ByteArray.empty⟩
/-- What slices.Backward gives: each with its place, the last one first. -/
def bkL (l : List Ex) : List (Nat × Ex) := (List.range l.length).map fun k => (l.length - 1 - k, l.getD (l.length - 1 - k) exZ)
def encB (p : Nat × Ex) : Array Value := #[.int .i64 (p.1 : Int), .agg (SC 2 (exV p.2))]
theorem bkL_len (l : List Ex) : (bkL l).length = l.length := by simp [bkL]
theorem bk_at {l : List Ex} {k : Nat} {p : Nat × Ex} (h : (bkL l)[k]? = some p) : k < l.length ∧ p.1 = l.length - 1 - k ∧ l[p.1]? = some p.2 := by
  have hk : k < l.length := by
    have := (List.getElem?_eq_some_iff.1 h).1
    rwa [bkL_len] at this
  unfold bkL at h
  rw [List.getElem?_map, List.getElem?_range hk] at h
  simp only [Option.map_some, Option.some.injEq] at h
  subst h
  refine ⟨hk, rfl, ?_⟩
  simp only
  rw [List.getD_eq_getElem?_getD, List.getElem?_eq_getElem (by omega)]
  rfl
theorem bk_of {l : List Ex} {k q : Nat} {x : Ex} (hk : k < l.length) (hq : q = l.length - 1 - k) (hx : l[q]? = some x) : (bkL l)[k]? = some (q, x) := by
  unfold bkL
  rw [List.getElem?_map, List.getElem?_range hk]
  simp only [Option.map_some]
  rw [← hq, List.getD_eq_getElem?_getD, hx]
  rfl
theorem Backward_run (a : Option Addr) (n c : Nat) (w : World) : Calls Try.prog 47 #[.slice a n c] w fun e w' => ∃ bs, e = .returned (.func (.func 66) #[] #[.pointer (some ⟨bs, 0, none⟩)]) ∧ w.heap.size ≤ bs ∧ w'.heap[bs]? = some (.cells #[.slice a n c] 25 (0, 0)) ∧ Below w.heap.size w w' := by
  go_enter Try.func47, Try.ntmps47
  go_wp2_with fail
  go_ret
  exact ⟨w.heap.size, rfl, Nat.le_refl _, heap_alloc_new w _, (Below.refl _ _).alloc (Nat.le_refl _) _⟩
theorem en_Back1 (args : Array Value) (w : World) : (callFunc 66 args).run Try.prog w = .ok (.enter 66 args) w := by kernel_rfl
set_option maxHeartbeats 16000000 in
theorem back_gives {W0 : World} {bs : Nat} {a : Option Addr} {n c : Nat} {l : List Ex} {A : Nat → Prop} (hbs : W0.heap[bs]? = some (.cells #[.slice a n c] 25 (0, 0))) (hX : ExAt W0 (.slice a n c) l) (hln : l.length = n) (hn : n < 4611686018427387904) (hA1 : A bs) (hA2 : ∀ ad, a = some ad → 0 < n → A ad.block) :
    Gives Try.prog 66 #[.pointer (some ⟨bs, 0, none⟩)] encB (bkL l) A W0 := by
  intro lq T J Jx W hW hT hJ hJx hY h0
  rw [show (#[Value.func (.yield lq) #[] #[]] ++ #[Value.pointer (some ⟨bs, 0, none⟩)]) = #[Value.func (.yield lq) #[] #[], Value.pointer (some ⟨bs, 0, none⟩)] from rfl]
  have HK : Hid (∀ X, Touch T W X → ∀ k, A k → k < W0.heap.size → X.heap[k]? = W0.heap[k]?) := Hid.mk (fun X hx k hk h1 => (hx.block k (Nat.lt_of_lt_of_le h1 hW.size) (fun e => (hT k e).2 hk)).trans (hW.block k h1))
  have HC : Hid (∀ X, Touch T W X → X.cell? ⟨bs, 0, none⟩ = some (.slice a n c)) := Hid.mk (fun X hx => by
    rw [World.cell?_of_block (w := W0) (HK.out X hx bs hA1 (heap_lt hbs))]
    exact (one_cell hbs).1)
  have HXX : Hid (∀ X, Touch T W X → ∀ q x, l[q]? = some x → ∃ ad, a = some ad ∧ X.cell? (ad.add (2 * q)) = some (.int .i64 x.kind) ∧ X.cell? ((ad.add (2 * q)).add 1) = some (.string x.body)) := Hid.mk (fun X hx q x hq => by
    obtain ⟨ad, rfl, k1, k2⟩ := hX.sl (Below.refl _ _) hq
    have hl : ad.block < W0.heap.size := by
      have := World.block_lt_of_cell? _ _ k1
      rwa [add_blk] at this
    have hb := HK.out X hx ad.block (hA2 ad rfl (by have := (List.getElem?_eq_some_iff.1 hq).1; omega)) hl
    refine ⟨ad, rfl, ?_, ?_⟩
    · rw [World.cell?_of_block (w := W0) (by rw [add_blk]; exact hb)]; exact k1
    · rw [World.cell?_of_block (w := W0) (by rw [add_blk, add_blk]; exact hb)]; exact k2)
  have HJ := Hid.mk hJ
  have HY := Hid.mk hY
  have HLN := Hid.mk hln
  have hbl : (bkL l).length = n := by rw [bkL_len, hln]
  rw [hbl]
  clear hbs hX hJ hJx hY hT hA2 hbl hln
  have ct := HC.out W (Touch.refl _ _)
  go_enter Try.func66, Try.ntmps66
  have hnb : (n : Int) < 4611686018427387904 := by omega
  go_wp2_with (refine wl_value rfl (exec_ld rfl (by rfl) (ldPx ct)) ?_)
  clear ct
  go_loopg [3] n (fun gm s3 z => ∃ (j : Nat) (i0 : Int), Hid (gm = n - j) ∧ j ≤ n ∧ s3 = .int .i64 i0 ∧ Hid (i0 = (n : Int) - 1 - (j : Int)) ∧ Hid (J j z ∧ Touch T W z))
  case atStart => exact ⟨0, _, Hid.mk rfl, by omega, rfl, Hid.mk (by omega), Hid.mk ⟨h0, Touch.refl _ _⟩⟩
  case round =>
    obtain ⟨j, i0, HG, hjn, rfl, HI, HS⟩ := hrel
    obtain ⟨hj, ht⟩ := HS.out
    by_cases hlt : j < n
    · obtain ⟨q, hq⟩ : ∃ q : Nat, n = q + 1 + j := ⟨n - 1 - j, by omega⟩
      have hiq : i0 = (q : Int) := by have := HI.out; omega
      subst hiq
      have HQ := Hid.mk hq
      obtain ⟨x, hx⟩ := list_at (l := l) (i := q) (by have := HLN.out; omega)
      have hxj : (bkL l)[j]? = some (q, x) := bk_of (by have := HLN.out; omega) (by have := HLN.out; omega) hx
      obtain ⟨p1, rfl, k1, k1b⟩ := HXX.out wr ht q x hx
      have hld := ldEx (e := x) k1 k1b
      have ct := HC.out wr ht
      have hqn : q < n := by omega
      have hq0 : (0 : Int) ≤ (q : Int) := by omega
      have hqb : (q : Int) < 4611686018427387904 := by omega
      have hy := HY.out j _ wr hxj hj
      clear hq HS
      go_upto_region 3 with fail
      refine (wpIn_wide (n := 0)).1 (regIn_at (ro := none) 6 (by
          rintro ⟨_, _, hq⟩
          have h2 : (∃ u, Ending.outgrown = .returned u) ∧ _ := hq
          obtain ⟨⟨_, e⟩, _⟩ := h2
          cases e) rfl ?_)
      simp only [List.take_succ_cons, List.take_zero, List.drop_succ_cons, List.drop_zero]
      go_wp2_with (first | (refine wl_value rfl (exec_ld rfl (by rfl) (ldPx ct)) ?_) | (refine wl_value rfl (exec_ixE (i := q) rfl (by rfl) (by rfl) hqn) ?_) | (refine wl_value rfl (exec_ld rfl (by rfl) hld) ?_))
      show wpListIn (Wd none) 0 _ _ _ (_ :: _) _ _
      refine li_yield rfl rfl (by rfl) (args2 (by rfl) (by rfl)) hy ?_
      rintro e w3 (⟨rfl, hj3, htj⟩ | ⟨rfl, hjx3, htj⟩)
      · have ht3 : Touch T W w3 := ht.tr htj
        refine ⟨_, rfl, all_in (by
          rintro ⟨_, _, hq⟩
          have h2 : (∃ u, Ending.outgrown = .returned u) ∧ _ := hq
          obtain ⟨⟨_, e⟩, _⟩ := h2
          cases e) _ _ _ rfl ?_⟩
        simp only [Act.put, List.setIfInBounds_toArray, List.set_cons_zero, List.set_cons_succ]
        go_wp2_with fail
        go_roundg (n - (j + 1))
        case rel => exact ⟨j + 1, _, Hid.mk rfl, by omega, rfl, Hid.mk (by have := HQ.out; omega), Hid.mk ⟨hj3, ht3⟩⟩
        case measure => have := HG.out; omega
      · have ht3 : Touch T W w3 := ht.tr htj
        refine ⟨_, rfl, all_in (by
          rintro ⟨_, _, hq⟩
          have h2 : (∃ u, Ending.outgrown = .returned u) ∧ _ := hq
          obtain ⟨⟨_, e⟩, _⟩ := h2
          cases e) _ _ _ rfl ?_⟩
        simp only [Act.put, List.setIfInBounds_toArray, List.set_cons_zero, List.set_cons_succ]
        go_wp2_with fail
        exact bodyPost_ret (results_none rfl _ _ _) rfl ⟨⟨_, rfl⟩, ht3, .inr hjx3⟩
    · have hjn2 : j = n := by omega
      have hi0 : i0 = -1 := by have := HI.out; omega
      subst hi0
      rw [hjn2] at hj
      go_wp2_with fail
      go_end0
      exact ⟨⟨_, rfl⟩, ht, .inl hj⟩
theorem exLen_drop (l : List Ex) (q : Nat) : exLen (l.drop q) ≤ exLen l := by
  induction l generalizing q with
  | nil => simp [exLen]
  | cons x l ih =>
    cases q with
    | zero => simp
    | succ q =>
      have := ih q
      rw [List.drop_succ_cons]
      have e : exLen (x :: l) = 2 + x.body.size + exLen l := rfl
      omega
theorem exec_shl20 {a : Act} {o : Oper} {w : World} {x y : Operand} {t : TypeId} (ho : o.op = .binOp .shl 3 x y t) {n : Int} (hx : a.eval x = .int .i64 n) (hy : a.eval y = .int .u64 20) (h0 : 0 ≤ n) (h1 : n ≤ 255) : (execOp a.eval o).run Try.prog w = .ok (.value (.int .i64 ((n.toNat * 1048576 : Nat) : Int))) w := by
  obtain ⟨i, rfl⟩ := Int.eq_ofNat_of_zero_le h0
  refine exec_bin2 ho hx hy rfl ?_
  have e2 : IntKind.i64.wrap ((i : Int) * 1048576) = ((i * 1048576 : Nat) : Int) := by rw [IntKind.wrap_i64]; omega
  simp [go_sem, e2]
theorem touch2_S (X2 : World) {g3 g4 : Nat} {c3 c4 : Cont} (w w' : World) (h : Touch (fun k => k = g3 ∨ k = g4) X2 w) (ht : Touch (fun k => X2.heap.size ≤ k ∨ k ∈ [(g3, c3), (g4, c4)].map (·.1)) w w') : Touch (fun k => k = g3 ∨ k = g4) X2 w' :=
  ⟨ht.os.trans h.os, ht.tape.trans h.tape, ht.output.trans h.output, Nat.le_trans h.size ht.size, fun k hk hn => (ht.block k (Nat.lt_of_lt_of_le hk h.size) (fun e => by
    rcases e with e | e
    · omega
    · simp at e; exact hn e)).trans (h.block k hk hn)⟩
theorem exB_step {P : Pk} {l : List Ex} {x : Ex} {q : Nat} (hx : l[q]? = some x) : exB P (l.drop q) = putT (nextK P (l.drop (q + 1))).toNat 1 ++ putT ((2 + x.body.size) / 8 - 1) 1 ++ x.body ++ exB P (l.drop (q + 1)) ∧ nextK P (l.drop q) = x.kind := by
  have h1 := List.getElem?_eq_some_iff.1 hx
  rw [List.drop_eq_getElem_cons h1.1, h1.2]
  exact ⟨rfl, rfl⟩
theorem exsOk_drop : ∀ {l : List Ex} {i : Nat} (q : Nat), exsOk l i = true → exsOk (l.drop q) (i + q) = true
  | l, i, 0, h => h
  | [], i, q + 1, h => by simp [exsOk]
  | x :: l, i, q + 1, h => by
    unfold exsOk at h
    rw [Bool.and_eq_true] at h
    have := exsOk_drop q h.2
    rw [show i + (q + 1) = i + 1 + q by omega]
    exact this
set_option maxHeartbeats 32000000 in
theorem bytes6_run (P : Pk) (v : Value) (w : World) (h1 : ExAt w v P.exts) (hO : PkOk P) (hr : rgtP P = true) (hf : fitP P = true) (h6 : P.sv = true) : Calls Try.prog 22 #[.agg (SC 46 (pkV P v))] w fun e w' => e = .returned (.string (sixB P)) ∧ Below w.heap.size w w' := by
  obtain ⟨a1, c1, rfl, _⟩ := id h1
  obtain ⟨hv1, hv2, _, hpr, hho, hcl, hof, ho8, hrr⟩ := rgtP_iff.1 hr
  rw [if_pos h6] at hrr
  obtain ⟨hfl, _, _, hx, hp, hid, _⟩ := rgt6_iff.1 hrr
  obtain ⟨hE0, hlen, hop⟩ := rgt_few hr
  have hfi : headP P + P.pay.size ≤ 65575 := by
    unfold fitP at hf
    rw [if_pos h6] at hf
    simpa using hf
  have hpy : P.pay.size ≤ 65575 := by omega
  have hy1 := bytT_size P.sv P.sb
  have hy2 := bytT_size P.dv P.db
  have flz : Value.int .i64 P.flow = .int .i64 ((P.flow.toNat : Nat) : Int) := by rw [← zn hfl.1]
  have HZ := Hid.mk (fun q => exB_size (P := P) (exsOk_drop q hx))
  have HNK := Hid.mk (fun q => exsOk_kind hp (exsOk_drop q hx) hpr)
  have HX := Hid.mk hx
  have hhd : headP P = 40 + exLen P.exts + (if P.cut = true then 8 else 0) := by unfold headP; rw [if_pos h6]
  have hsz : (exB P P.exts).size + P.pay.size = headP P + P.pay.size - 40 := by have := exB_size (P := P) hx; omega
  have HSB : Hid (sixB P = putT (1610612736 + P.cls.toNat * 1048576 + P.flow.toNat) 4 ++ putT ((exB P P.exts).size + P.pay.size) 2 ++ putT (nextK P P.exts).toNat 1 ++ putT P.hop.toNat 1 ++ bytT P.sv P.sb ++ bytT P.dv P.db ++ exB P P.exts ++ P.pay) := Hid.mk (by rw [hsz]; rfl)
  have HCU := Hid.mk (fun ww => cutBytes_run P (.slice a1 P.exts.length c1) ww hpr hof ho8 hid)
  generalize sixB P = SB at *
  obtain ⟨n, hnn⟩ : ∃ n, P.exts.length = n := ⟨_, rfl⟩
  have HN := Hid.mk hnn
  rw [hnn] at h1 hlen HCU ⊢
  clear hnn hhd hsz hx
  refine calls_of_wpM Try.func22 rfl ?_
  simp only [Try.ntmps22, List.size_toArray, List.length_cons, List.length_nil, Nat.reduceAdd, Nat.reduceSub, Array.replicate_succ, Array.replicate_zero, List.push_toArray, List.append_toArray, List.nil_append, List.cons_append]
  go_wp2_with (refine wl_boxO rfl rfl isPk (by rfl) ?_; intro g1 u2 hg1 q1 hB2; refine Hid.out ?_)
  refine Hid.mk ?_
  have hx1 := h1.kept hB2
  have s2 := pk_proto q1
  go_wp2_with (first | (refine wl_value rfl (exec_fpk 2 (by decide) rfl (by rfl)) ?_) | (refine wl_value rfl (exec_ld rfl (by rfl) (ldP s2)) ?_) | (refine wl_alI rfl rfl ?_; intro g3 u3 hg3 n3 hB3; refine Hid.out ?_))
  refine Hid.mk ?_
  go_wp2_with (refine wl_alS rfl rfl ?_; intro g4 u4 hg4 n4 hB4; refine Hid.out ?_)
  refine Hid.mk ?_
  have h34 : g3 ≠ g4 := by have := heap_lt n3; omega
  have n3 := bheap hB4 n3 (heap_lt n3)
  have hgl3 := heap_lt n3
  go_wp2_with (refine wl_oneI rfl rfl (by rfl) (by rfl) n3 ?_; intro u5 m3 o5; refine Hid.out ?_)
  refine Hid.mk ?_
  have m4 := (o5.block g4 (Ne.symm h34)).trans n4
  go_wp2_with (refine wl_oneS rfl rfl (by rfl) (by rfl) m4 ?_; intro u6 k4 o6; refine Hid.out ?_)
  refine Hid.mk ?_
  have k3 := (o6.block g3 h34).trans m3
  have hg13 : g1 < g3 := by have := SAt.lt q1; omega
  have hg14 : g1 < g4 := by have := SAt.lt q1; have := hB3.size; omega
  have hw3 : w.heap.size ≤ g3 := by have := hB2.size; omega
  have hw4 : w.heap.size ≤ g4 := by have := hB2.size; have := hB3.size; omega
  have q6 := ((((SAt.kept q1 hB3).kept hB4).only o5 (by omega)).only o6 (by omega))
  have hBa : Below w.heap.size w u6 := (((hB2.trans (hB3.mono hB2.size)).trans (hB4.mono (by have := hB2.size; have := hB3.size; omega))).trans (o5.below hw3)).trans (o6.below hw4)
  clear n3 n4 m3 m4 o5 o6 hB4 hB3 hB2 q1 s2 hx1
  have c12 := pk_cut q6
  go_upto_if 10 with (first | (refine wl_value rfl (exec_fpk 12 (by decide) rfl (by rfl)) ?_) | (refine wl_value rfl (exec_ld rfl (by rfl) (ldPb c12)) ?_))
  simp only [Act.put, List.setIfInBounds_toArray, List.set_cons_zero, List.set_cons_succ]
  go_cut [10, 11, 12] from 10 to 12 (fun s10 s11 s12 z => SAt z g1 27 46 (pkV P (.slice a1 n c1)) ∧ z.heap[g3]? = some (.cells #[.int .i64 (nextK P [])] 3 (0, 0)) ∧ z.heap[g4]? = some (.cells #[.string (exB P [])] 9 (0, 0)) ∧ Below w.heap.size w z)
  case first =>
    cases hcut : P.cut
    · rw [hcut] at c12
      have e1 : nextK P [] = P.proto := by unfold nextK tailK; rw [hcut]; rfl
      have e2 : exB P [] = ByteArray.empty := by unfold exB; rw [hcut]; rfl
      go_wp2_with fail
      go_meet
      case rel => exact ⟨q6, by rw [e1]; exact k3, by rw [e2]; exact k4, hBa⟩
    · rw [hcut] at c12
      have e1 : nextK P [] = 44 := by unfold nextK tailK; rw [hcut]; rfl
      have e2 : exB P [] = cuB P := by unfold exB; rw [hcut]; rfl
      go_wp2_with (first | (refine wl_value rfl (look_st rfl isPk q6 (by rfl)) ?_) | (go_at_call 46; refine (HCU.out _).mono ?_; rintro e u7 ⟨rfl, hB7⟩; refine Hid.out ?_))
      refine Hid.mk ?_
      have m3 := bheap hB7 k3 (heap_lt k3)
      have m4 := bheap hB7 k4 (heap_lt k4)
      go_wp2_with (refine wl_oneI rfl rfl (by rfl) (by rfl) m3 ?_; intro u8 r3 o8; refine Hid.out ?_)
      refine Hid.mk ?_
      have r4 := (o8.block g4 (Ne.symm h34)).trans m4
      go_wp2_with (refine wl_oneS rfl rfl (by rfl) (by rfl) r4 ?_; intro u9 t4 o9; refine Hid.out ?_)
      refine Hid.mk ?_
      have t3 := (o9.block g3 h34).trans r3
      go_wp2_with fail
      go_meet
      case rel => exact ⟨((SAt.kept q6 hB7).only o8 (by omega)).only o9 (by omega), by rw [e1]; exact t3, by rw [e2]; exact t4, ((hBa.trans (hB7.mono hBa.size)).trans (o8.below hw3)).trans (o9.below hw4)⟩
  case rest =>
    obtain ⟨q7, t3, t4, hBb⟩ := hcut
    clear q6 k3 k4 hBa c12 HCU
    have s11 := pk_exts q7
    go_wp2_with (first | (refine wl_value rfl (exec_fpk 11 (by decide) rfl (by rfl)) ?_) | (refine wl_value rfl (exec_ld rfl (by rfl) (ldPx s11)) ?_))
    refine (Backward_run a1 n c1 _).mono ?_
    rintro e w7 ⟨bs, rfl, hbs, nbs, hB7⟩
    have hBc := hBb.trans (hB7.mono hBb.size)
    have y1 := SAt.kept q7 hB7
    have p3 := bheap hB7 t3 (heap_lt t3)
    have p4 := bheap hB7 t4 (heap_lt t4)
    have hx7 := h1.kept hBc
    have hl3 := heap_lt p3
    have hl4 := heap_lt p4
    have hlb := heap_lt nbs
    have hgl1 := SAt.lt y1
    have hAx : ∀ k, (k = bs ∨ ∃ ad, a1 = some ad ∧ k = ad.block ∧ 0 < n) → k < w7.heap.size ∧ k ≠ g3 ∧ k ≠ g4 := fun k hk => by
      rcases hk with rfl | ⟨ad, rfl, rfl, h0⟩
      · have := heap_lt t3
        have := heap_lt t4
        exact ⟨hlb, by omega, by omega⟩
      · obtain ⟨x, hx⟩ := list_at (l := P.exts) (i := 0) (by rw [HN.out]; exact h0)
        obtain ⟨ad', e, k1, _⟩ := h1.sl (Below.refl _ _) hx
        injection e with e
        subst e
        have hk1 := World.block_lt_of_cell? _ _ k1
        rw [add_blk] at hk1
        have := hBc.size
        exact ⟨by omega, by omega, by omega⟩
    have HGV : Gives Try.prog 66 #[.pointer (some ⟨bs, 0, none⟩)] encB (bkL P.exts) (fun k => k = bs ∨ ∃ ad, a1 = some ad ∧ k = ad.block ∧ 0 < n) w7 :=
      back_gives nbs hx7 HN.out (by omega) (.inl rfl) (fun ad e h0 => .inr ⟨ad, e, rfl, h0⟩)
    have hJ0 : w7.heap[g3]? = some (.cells #[.int .i64 (nextK P (P.exts.drop (n - 0)))] 3 (0, 0)) ∧ w7.heap[g4]? = some (.cells #[.string (exB P (P.exts.drop (n - 0)))] 9 (0, 0)) := by
      rw [Nat.sub_zero, ← HN.out, List.drop_length]
      exact ⟨p3, p4⟩
    clear q7 t3 t4 hBb hB7 p3 p4
    go_wp2_with fail
    refine wp_rangeT (by rfl) en_Back1 HGV (Below.refl _ _) (fun x => rfl) (fun k hk => (hAx k hk).1) (fun k => k = g3 ∨ k = g4) (fun k hk => by
      rcases hk with rfl | rfl
      · exact ⟨hl3, fun h => (hAx _ h).2.1 rfl⟩
      · exact ⟨hl4, fun h => (hAx _ h).2.2 rfl⟩) (fun i X => X.heap[g3]? = some (.cells #[.int .i64 (nextK P (P.exts.drop (n - i)))] 3 (0, 0)) ∧ X.heap[g4]? = some (.cells #[.string (exB P (P.exts.drop (n - i)))] 9 (0, 0))) (fun _ _ => False) (fun i X Y hX hb => ⟨bheap hb hX.1 hl3, bheap hb hX.2 hl4⟩) (fun _ _ _ h _ => h) hJ0 ?rnd ?done (fun _ _ _ _ h => h.elim)
    case rnd =>
      intro lq j x0 X hlq hlX hx0 htX hjX
      obtain ⟨q, x⟩ := x0
      obtain ⟨hjl, hq, hx⟩ := bk_at hx0
      simp only at hq hx
      rw [HN.out] at hjl hq
      clear hx0
      simp only [setPs, encB, List.zip_toArray, List.zip_cons_cons, List.zip_nil_left]
      refine regIn (fun ⟨_, _, hq⟩ => hq) rfl ?_
      go_wp2_with (refine wl_allocEx rfl rfl ?_; intro gf X1 hgf qf hBf; refine Hid.out ?_)
      refine Hid.mk ?_
      go_wp2_with (refine st_stO rfl rfl isEx2 (exV_one _) qf (by rfl) (by rfl) ?_; intro X3 qf3 of3; refine Hid.out ?_)
      refine Hid.mk ?_
      go_wp2_with fail
      refine ⟨hBf.trans (of3.below hgf), fun X2 hX2 htX2 hj3 hj4 => ?_⟩
      have hjX2 := And.intro hj3 hj4
      clear hj3 hj4
      have q2 : SAt X2 gf 36 2 (exV x) := qf3.tou hX2 (by omega)
      have hXs := htX.size
      have hf3 : gf ≠ g3 := by omega
      have hf4 : gf ≠ g4 := by omega
      obtain ⟨hst1, hst2⟩ := exB_step (P := P) hx
      have hxi := exsOk_drop q HX.out
      have hxo : exOk x (0 + q) = true := by
        have h1' := List.getElem?_eq_some_iff.1 hx
        rw [List.drop_eq_getElem_cons h1'.1, h1'.2] at hxi
        unfold exsOk at hxi
        exact (Bool.and_eq_true _ _ ▸ hxi).1
      obtain ⟨_, _, hz6, hz⟩ := exOk_iff.1 hxo
      have hnk := HNK.out (q + 1)
      have hnj : n - j = q + 1 := by omega
      rw [hnj] at hjX2
      have hzz := HZ.out (q + 1)
      have hzl := exLen_drop P.exts (q + 1)
      have hz9 : (exB P (P.exts.drop (q + 1))).size ≤ 9000 := by rw [hzz]; split <;> omega
      have HEB : Hid (∀ ww, Calls Try.prog 48 #[.agg (SC 2 (exV x)), .int .i64 (nextK P (P.exts.drop (q + 1)))] ww fun e w' => e = .returned (.string (putT (nextK P (P.exts.drop (q + 1))).toNat 1 ++ putT ((2 + x.body.size) / 8 - 1) 1 ++ x.body)) ∧ Below ww.heap.size ww w') := Hid.mk (fun ww => extBytes_run x _ ww hnk.1 hnk.2.1 (by omega) (by omega))
      have HCT : Hid ((putT (nextK P (P.exts.drop (q + 1))).toNat 1 ++ putT ((2 + x.body.size) / 8 - 1) 1 ++ x.body).size + (exB P (P.exts.drop (q + 1))).size ≤ 9223372036854775807) := Hid.mk (by rw [ByteArray.size_append, ByteArray.size_append, putT_size, putT_size]; omega)
      have hnj1 : n - (j + 1) = q := by omega
      have HFIN : Hid (exB P (P.exts.drop (n - (j + 1))) = putT (nextK P (P.exts.drop (q + 1))).toNat 1 ++ putT ((2 + x.body.size) / 8 - 1) 1 ++ x.body ++ exB P (P.exts.drop (q + 1)) ∧ nextK P (P.exts.drop (n - (j + 1))) = x.kind) := Hid.mk (by rw [hnj1]; exact ⟨hst1, hst2⟩)
      clear hst1 hst2 hzz hz9 hnk
      generalize nextK P (P.exts.drop (q + 1)) = k0 at *
      generalize exB P (P.exts.drop (q + 1)) = h0 at *
      generalize putT k0.toNat 1 ++ putT ((2 + x.body.size) / 8 - 1) 1 ++ x.body = e1 at *
      have HF : Hid (∀ ww, Touch (fun k => k = g3 ∨ k = g4) X2 ww → SAt ww gf 36 2 (exV x)) := Hid.mk (fun ww hS => q2.block (hS.block gf (SAt.lt q2) (by omega)))
      refine wpIn_block (regIn_any (ro := some lq) rfl (fun ⟨_, _, hq⟩ => hq) rfl (any_region3 (fun ww => Touch (fun k => k = g3 ∨ k = g4) X2 ww) X2.heap.size
          [(g3, once #[.int .i64 k0] 3 7 #[.int .i64 x.kind]), (g4, once #[.string h0] 9 8 #[.string (e1 ++ h0)])]
          [kv (.pointer (some ⟨gf, 0, none⟩)), kv (.int .i64 x.kind), kv (.agg (SC 2 (exV x))), kv (.int .i64 k0), kv (.string e1), kv (.string h0), kv (.string (e1 ++ h0)), .val fun _ => True, .val fun _ => True]
          [.none, .none, .none, .none, .none, .none, .none, .base 0 1, .base 1 1]
          [some 18, some 19, some 20, some 21, some 22, some 23, some 24, none, none]
          [(6, .pointer (some ⟨gf, 0, none⟩)), (3, .pointer (some ⟨g3, 0, none⟩)), (4, .pointer (some ⟨g4, 0, none⟩))]
          [[], [.slot 0], [], [.base 0 0], [.slot 2, .slot 3], [.base 1 0], [.slot 4, .slot 5], [.slot 1, .base 0 0], [.slot 6, .base 1 0]]
          [.base 0 1, .base 1 1] [18, 19, 20, 21, 22, 23, 24]
          (by kernel_rfl) ⟨rfl, rfl, rfl, trivial⟩ (Touch.refl _ _).drew (Nat.le_refl _) ⟨⟨heap_lt hjX2.1, obIn hjX2.1⟩, ⟨heap_lt hjX2.2, obIn hjX2.2⟩, trivial⟩ ⟨⟨h34, trivial⟩, trivial, trivial⟩ (touch2_S X2)
          ⟨
            (fun QQ aa ww own hS hBg fr kn => .inl ⟨trivial, fun K hK => wp_value (exec_fexG 0 (by decide) rfl fr.1) (hK _ _ ⟨Touch.refl _ _, rfl⟩)⟩),
            (fun QQ aa ww own hS hBg fr kn => .inl ⟨trivial, fun K hK => wp_value (exec_ld rfl kn.1 (ldP (ex_kind (HF.out ww hS)))) (hK _ _ ⟨Touch.refl _ _, rfl⟩)⟩),
            (fun QQ aa ww own hS hBg fr kn => .inl ⟨trivial, fun K hK => wp_value (look_st rfl isEx2 (HF.out ww hS) fr.1) (hK _ _ ⟨Touch.refl _ _, rfl⟩)⟩),
            (fun QQ aa ww own hS hBg fr kn => .inl ⟨trivial, fun K hK => wp_value (exec_ld rfl fr.2.1 (ldP (one_cell (obAt kn.1)).1)) (hK _ _ ⟨Touch.refl _ _, rfl⟩)⟩),
            (fun QQ aa ww own hS hBg fr kn => .inl ⟨trivial, fun K hK => stepc en_extBytes rfl (args2 kn.1 kn.2.1) (HEB.out ww) (fun w' hb => hK _ _ ⟨touch_below hb, rfl⟩)⟩),
            (fun QQ aa ww own hS hBg fr kn => .inl ⟨trivial, fun K hK => wp_value (exec_ld rfl fr.2.2.1 (ldPs (one_cell (obAt kn.1)).1)) (hK _ _ ⟨Touch.refl _ _, rfl⟩)⟩),
            (fun QQ aa ww own hS hBg fr kn => .inl ⟨trivial, fun K hK => wp_value (exec_catS rfl kn.1 kn.2.1 HCT.out) (hK _ _ ⟨Touch.refl _ _, rfl⟩)⟩),
            (fun QQ aa ww own hS hBg fr kn => .inl ⟨trivial, fun K hK => act_oneI rfl fr.2.1 kn.1 (obAt kn.2.1) (fun w2 hg ho => hK _ _ ⟨⟨touch_only ho, obIn hg⟩, trivial⟩)⟩),
            (fun QQ aa ww own hS hBg fr kn => .inl ⟨trivial, fun K hK => act_oneS rfl fr.2.2.1 kn.1 (obAt kn.2.1) (fun w2 hg ho => hK _ _ ⟨⟨touch_only ho, obIn hg⟩, trivial⟩)⟩),
            trivial⟩ ?_))
      intro vs own Y hSY hsz kn inj
      show _ ∧ _
      refine ⟨⟨?_, ?_⟩, hSY⟩
      · rw [HFIN.out.2]; exact obAt kn.1
      · rw [HFIN.out.1]; exact obAt kn.2.1
    case done =>
      intro D Y hD hjY htY hKD
      rw [bkL_len, HN.out, Nat.sub_self, List.drop_zero] at hjY
      obtain ⟨y3, y4⟩ := hjY
      have hBY : Below w.heap.size w Y := hBc.trans (tou_below htY (fun k hk => by rcases hk with rfl | rfl <;> omega) hBc.size)
      have y1 := y1.block (htY.block g1 hgl1 (by omega))
      have y3l := heap_lt y3
      have y4l := heap_lt y4
      have hzE : (exB P P.exts).size ≤ 9000 := by
        have := HZ.out 0
        rw [List.drop_zero] at this
        rw [this]
        split <;> omega
      have hnk := HNK.out 0
      rw [List.drop_zero] at hnk
      have hk10 := hnk.1
      have hk11 := hnk.2.1
      clear hnk HZ HNK HX HGV
      generalize exB P P.exts = E at *
      generalize nextK P P.exts = k1 at *
      have hDY := heap_lt hKD
      go_upto_region 7 with fail
      refine wp_region3 (Below Y.heap.size Y) Y.heap.size
          ([] : List (Nat × Cont))
          (kv (.pointer (some ⟨g1, 36, none⟩)) :: kv (.int .i64 P.cls) :: kv (.int .i64 ((P.cls.toNat * 1048576 : Nat) : Int)) :: kv (.int .i64 ((1610612736 + P.cls.toNat * 1048576 : Nat) : Int)) :: kv (.pointer (some ⟨g1, 42, none⟩)) :: kv (.int .i64 P.flow) :: kv (.int .i64 ((1610612736 + P.cls.toNat * 1048576 + P.flow.toNat : Nat) : Int)) :: kv (.string (putT (1610612736 + P.cls.toNat * 1048576 + P.flow.toNat) 4)) :: kv (.string E) :: kv (.int .i64 (E.size : Int)) :: kv (.pointer (some ⟨g1, 45, none⟩)) :: kv (.string P.pay) :: kv (.int .i64 (P.pay.size : Int)) :: kv (.int .i64 ((E.size + P.pay.size : Nat) : Int)) :: kv (.string (putT (E.size + P.pay.size) 2)) :: kv (.string (putT (1610612736 + P.cls.toNat * 1048576 + P.flow.toNat) 4 ++ (putT (E.size + P.pay.size) 2))) :: kv (.int .i64 k1) :: kv (.string (putT k1.toNat 1)) :: kv (.string (putT (1610612736 + P.cls.toNat * 1048576 + P.flow.toNat) 4 ++ (putT (E.size + P.pay.size) 2) ++ (putT k1.toNat 1))) :: kv (.pointer (some ⟨g1, 35, none⟩)) :: kv (.int .i64 P.hop) :: kv (.string (putT P.hop.toNat 1)) :: kv (.string (putT (1610612736 + P.cls.toNat * 1048576 + P.flow.toNat) 4 ++ (putT (E.size + P.pay.size) 2) ++ (putT k1.toNat 1) ++ (putT P.hop.toNat 1))) :: kv (.pointer (some ⟨g1, 0, none⟩)) :: kv (.agg (SC 17 (adV P.sv P.sb))) :: kv (.string (bytT P.sv P.sb)) :: kv (.string (putT (1610612736 + P.cls.toNat * 1048576 + P.flow.toNat) 4 ++ (putT (E.size + P.pay.size) 2) ++ (putT k1.toNat 1) ++ (putT P.hop.toNat 1) ++ (bytT P.sv P.sb))) :: kv (.pointer (some ⟨g1, 17, none⟩)) :: kv (.agg (SC 17 (adV P.dv P.db))) :: kv (.string (bytT P.dv P.db)) :: kv (.string (putT (1610612736 + P.cls.toNat * 1048576 + P.flow.toNat) 4 ++ (putT (E.size + P.pay.size) 2) ++ (putT k1.toNat 1) ++ (putT P.hop.toNat 1) ++ (bytT P.sv P.sb) ++ (bytT P.dv P.db))) :: kv (.string E) :: kv (.string (putT (1610612736 + P.cls.toNat * 1048576 + P.flow.toNat) 4 ++ (putT (E.size + P.pay.size) 2) ++ (putT k1.toNat 1) ++ (putT P.hop.toNat 1) ++ (bytT P.sv P.sb) ++ (bytT P.dv P.db) ++ E)) :: kv (.pointer (some ⟨g1, 45, none⟩)) :: kv (.string P.pay) :: kv (.string (putT (1610612736 + P.cls.toNat * 1048576 + P.flow.toNat) 4 ++ (putT (E.size + P.pay.size) 2) ++ (putT k1.toNat 1) ++ (putT P.hop.toNat 1) ++ (bytT P.sv P.sb) ++ (bytT P.dv P.db) ++ E ++ P.pay)) :: kv (.string (putT (1610612736 + P.cls.toNat * 1048576 + P.flow.toNat) 4 ++ (putT (E.size + P.pay.size) 2) ++ (putT k1.toNat 1) ++ (putT P.hop.toNat 1) ++ (bytT P.sv P.sb) ++ (bytT P.dv P.db) ++ E ++ P.pay)) :: [])
          (.none :: .none :: .none :: .none :: .none :: .none :: .none :: .none :: .none :: .none :: .none :: .none :: .none :: .none :: .none :: .none :: .none :: .none :: .none :: .none :: .none :: .none :: .none :: .none :: .none :: .none :: .none :: .none :: .none :: .none :: .none :: .none :: .none :: .none :: .none :: .none :: .none :: [])
          (some 25 :: some 26 :: some 27 :: some 28 :: some 29 :: some 30 :: some 31 :: some 32 :: some 33 :: some 34 :: some 35 :: some 36 :: some 37 :: some 38 :: some 39 :: some 40 :: some 41 :: some 42 :: some 43 :: some 44 :: some 45 :: some 46 :: some 47 :: some 48 :: some 49 :: some 50 :: some 51 :: some 52 :: some 53 :: some 54 :: some 55 :: some 56 :: some 57 :: some 58 :: some 59 :: some 60 :: some 2 :: [])
          [(1, .pointer (some ⟨g1, 0, none⟩)), (4, .pointer (some ⟨g4, 0, none⟩)), (3, .pointer (some ⟨g3, 0, none⟩))]
          ([] :: [.slot 0] :: [.slot 1] :: [.slot 2] :: [] :: [.slot 4] :: [.slot 3, .slot 5] :: [.slot 6] :: [] :: [.slot 8] :: [] :: [.slot 10] :: [.slot 11] :: [.slot 9, .slot 12] :: [.slot 13] :: [.slot 7, .slot 14] :: [] :: [.slot 16] :: [.slot 15, .slot 17] :: [] :: [.slot 19] :: [.slot 20] :: [.slot 18, .slot 21] :: [] :: [.slot 23] :: [.slot 24] :: [.slot 22, .slot 25] :: [] :: [.slot 27] :: [.slot 28] :: [.slot 26, .slot 29] :: [] :: [.slot 30, .slot 31] :: [] :: [.slot 33] :: [.slot 32, .slot 34] :: [.slot 35] :: [])
          [.slot 36] (25 :: 26 :: 27 :: 28 :: 29 :: 30 :: 31 :: 32 :: 33 :: 34 :: 35 :: 36 :: 37 :: 38 :: 39 :: 40 :: 41 :: 42 :: 43 :: 44 :: 45 :: 46 :: 47 :: 48 :: 49 :: 50 :: 51 :: 52 :: 53 :: 54 :: 55 :: 56 :: 57 :: 58 :: 59 :: 60 :: 2 :: [])
          rfl (by kernel_rfl) ⟨rfl, rfl, rfl, trivial⟩ ((Below.refl _ Y).drew) (Nat.le_refl _) trivial trivial (below_GcW (Nat.le_refl _))
          ⟨
          (fun QQ aa ww own hS hBg fr kn => .inl ⟨trivial, fun K hK => wp_value (exec_fpk 4 (by decide) rfl fr.1) (hK _ _ ⟨Touch.refl _ _, rfl⟩)⟩),
          (fun QQ aa ww own hS hBg fr kn => .inl ⟨trivial, fun K hK => wp_value (exec_ld rfl kn.1 (ldP (pk_cls (SAt.kept y1 hS)))) (hK _ _ ⟨Touch.refl _ _, rfl⟩)⟩),
          (fun QQ aa ww own hS hBg fr kn => .inl ⟨trivial, fun K hK => wp_value (exec_shl20 rfl kn.1 rfl hcl.1 hcl.2) (hK _ _ ⟨Touch.refl _ _, rfl⟩)⟩),
          (fun QQ aa ww own hS hBg fr kn => .inl ⟨trivial, fun K hK => wp_value (exec_orI (i := 1610612736) (m := P.cls.toNat * 1048576) rfl rfl kn.1 (or_six1 (by omega)) (by decide) (by omega)) (hK _ _ ⟨Touch.refl _ _, rfl⟩)⟩),
          (fun QQ aa ww own hS hBg fr kn => .inl ⟨trivial, fun K hK => wp_value (exec_fpk 10 (by decide) rfl fr.1) (hK _ _ ⟨Touch.refl _ _, rfl⟩)⟩),
          (fun QQ aa ww own hS hBg fr kn => .inl ⟨trivial, fun K hK => wp_value (exec_ld rfl kn.1 (ldP (pk_flow (SAt.kept y1 hS)))) (hK _ _ ⟨Touch.refl _ _, rfl⟩)⟩),
          (fun QQ aa ww own hS hBg fr kn => .inl ⟨trivial, fun K hK => wp_value (exec_orI (i := 1610612736 + P.cls.toNat * 1048576) (m := P.flow.toNat) rfl kn.1 (kn.2.1.trans flz) (or_six2 (by omega)) (by omega) (by omega)) (hK _ _ ⟨Touch.refl _ _, rfl⟩)⟩),
          (fun QQ aa ww own hS hBg fr kn => .inl ⟨trivial, fun K hK => stepc en_put rfl (args2 kn.1 rfl) (put4N (1610612736 + P.cls.toNat * 1048576 + P.flow.toNat) ww (by omega)) (fun w' hb => hK _ _ ⟨touch_below hb, rfl⟩)⟩),
          (fun QQ aa ww own hS hBg fr kn => .inl ⟨trivial, fun K hK => wp_value (exec_ld rfl fr.2.1 (ldPs (one_cell (bheap hS y4 y4l)).1)) (hK _ _ ⟨Touch.refl _ _, rfl⟩)⟩),
          (fun QQ aa ww own hS hBg fr kn => .inl ⟨trivial, fun K hK => wp_value (exec_lenS rfl kn.1) (hK _ _ ⟨Touch.refl _ _, rfl⟩)⟩),
          (fun QQ aa ww own hS hBg fr kn => .inl ⟨trivial, fun K hK => wp_value (exec_fpk 13 (by decide) rfl fr.1) (hK _ _ ⟨Touch.refl _ _, rfl⟩)⟩),
          (fun QQ aa ww own hS hBg fr kn => .inl ⟨trivial, fun K hK => wp_value (exec_ld rfl kn.1 (ldPs (pk_pay (SAt.kept y1 hS)))) (hK _ _ ⟨Touch.refl _ _, rfl⟩)⟩),
          (fun QQ aa ww own hS hBg fr kn => .inl ⟨trivial, fun K hK => wp_value (exec_lenS rfl kn.1) (hK _ _ ⟨Touch.refl _ _, rfl⟩)⟩),
          (fun QQ aa ww own hS hBg fr kn => .inl ⟨trivial, fun K hK => wp_value (exec_addW (i := E.size) (m := P.pay.size) rfl kn.1 kn.2.1 rfl (by omega)) (hK _ _ ⟨Touch.refl _ _, rfl⟩)⟩),
          (fun QQ aa ww own hS hBg fr kn => .inl ⟨trivial, fun K hK => stepc en_put rfl (args2 kn.1 rfl) (put2N (E.size + P.pay.size) ww (by omega)) (fun w' hb => hK _ _ ⟨touch_below hb, rfl⟩)⟩),
          (fun QQ aa ww own hS hBg fr kn => .inl ⟨trivial, fun K hK => wp_value (exec_catS (s := putT (1610612736 + P.cls.toNat * 1048576 + P.flow.toNat) 4) (t := putT (E.size + P.pay.size) 2) rfl kn.1 kn.2.1 (cat_ok (Nat.le_of_eq (putT_size _ _)) (Nat.le_of_eq (putT_size _ _)) (by decide : 4 + 2 ≤ 9223372036854775807))) (hK _ _ ⟨Touch.refl _ _, rfl⟩)⟩),
          (fun QQ aa ww own hS hBg fr kn => .inl ⟨trivial, fun K hK => wp_value (exec_ld rfl fr.2.2.1 (ldP (one_cell (bheap hS y3 y3l)).1)) (hK _ _ ⟨Touch.refl _ _, rfl⟩)⟩),
          (fun QQ aa ww own hS hBg fr kn => .inl ⟨trivial, fun K hK => stepc en_put rfl (args2 kn.1 rfl) (put1_run k1 ww (by omega) (by omega)) (fun w' hb => hK _ _ ⟨touch_below hb, rfl⟩)⟩),
          (fun QQ aa ww own hS hBg fr kn => .inl ⟨trivial, fun K hK => wp_value (exec_catS (s := putT (1610612736 + P.cls.toNat * 1048576 + P.flow.toNat) 4 ++ (putT (E.size + P.pay.size) 2)) (t := putT k1.toNat 1) rfl kn.1 kn.2.1 (cat_ok (sz_app (Nat.le_of_eq (putT_size _ _)) (Nat.le_of_eq (putT_size _ _)) (by decide : 4 + 2 = 6)) (Nat.le_of_eq (putT_size _ _)) (by decide : 6 + 1 ≤ 9223372036854775807))) (hK _ _ ⟨Touch.refl _ _, rfl⟩)⟩),
          (fun QQ aa ww own hS hBg fr kn => .inl ⟨trivial, fun K hK => wp_value (exec_fpk 3 (by decide) rfl fr.1) (hK _ _ ⟨Touch.refl _ _, rfl⟩)⟩),
          (fun QQ aa ww own hS hBg fr kn => .inl ⟨trivial, fun K hK => wp_value (exec_ld rfl kn.1 (ldP (pk_hop (SAt.kept y1 hS)))) (hK _ _ ⟨Touch.refl _ _, rfl⟩)⟩),
          (fun QQ aa ww own hS hBg fr kn => .inl ⟨trivial, fun K hK => stepc en_put rfl (args2 kn.1 rfl) (put1_run P.hop ww (by omega) (by omega)) (fun w' hb => hK _ _ ⟨touch_below hb, rfl⟩)⟩),
          (fun QQ aa ww own hS hBg fr kn => .inl ⟨trivial, fun K hK => wp_value (exec_catS (s := putT (1610612736 + P.cls.toNat * 1048576 + P.flow.toNat) 4 ++ (putT (E.size + P.pay.size) 2) ++ (putT k1.toNat 1)) (t := putT P.hop.toNat 1) rfl kn.1 kn.2.1 (cat_ok (sz_app (sz_app (Nat.le_of_eq (putT_size _ _)) (Nat.le_of_eq (putT_size _ _)) (by decide : 4 + 2 = 6)) (Nat.le_of_eq (putT_size _ _)) (by decide : 6 + 1 = 7)) (Nat.le_of_eq (putT_size _ _)) (by decide : 7 + 1 ≤ 9223372036854775807))) (hK _ _ ⟨Touch.refl _ _, rfl⟩)⟩),
          (fun QQ aa ww own hS hBg fr kn => .inl ⟨trivial, fun K hK => wp_value (exec_fpk 0 (by decide) rfl fr.1) (hK _ _ ⟨Touch.refl _ _, rfl⟩)⟩),
          (fun QQ aa ww own hS hBg fr kn => .inl ⟨trivial, fun K hK => wp_value (exec_ld rfl kn.1 (ld_src (SAt.kept y1 hS))) (hK _ _ ⟨Touch.refl _ _, rfl⟩)⟩),
          (fun QQ aa ww own hS hBg fr kn => .inl ⟨trivial, fun K hK => stepc en_Bytes rfl (args1 kn.1) (Bytes_run P.sv P.sb ww hO.sb) (fun w' hb => hK _ _ ⟨touch_below hb, rfl⟩)⟩),
          (fun QQ aa ww own hS hBg fr kn => .inl ⟨trivial, fun K hK => wp_value (exec_catS (s := putT (1610612736 + P.cls.toNat * 1048576 + P.flow.toNat) 4 ++ (putT (E.size + P.pay.size) 2) ++ (putT k1.toNat 1) ++ (putT P.hop.toNat 1)) (t := bytT P.sv P.sb) rfl kn.1 kn.2.1 (cat_ok (sz_app (sz_app (sz_app (Nat.le_of_eq (putT_size _ _)) (Nat.le_of_eq (putT_size _ _)) (by decide : 4 + 2 = 6)) (Nat.le_of_eq (putT_size _ _)) (by decide : 6 + 1 = 7)) (Nat.le_of_eq (putT_size _ _)) (by decide : 7 + 1 = 8)) hy1 (by decide : 8 + 16 ≤ 9223372036854775807))) (hK _ _ ⟨Touch.refl _ _, rfl⟩)⟩),
          (fun QQ aa ww own hS hBg fr kn => .inl ⟨trivial, fun K hK => wp_value (exec_fpk 1 (by decide) rfl fr.1) (hK _ _ ⟨Touch.refl _ _, rfl⟩)⟩),
          (fun QQ aa ww own hS hBg fr kn => .inl ⟨trivial, fun K hK => wp_value (exec_ld rfl kn.1 (ld_dst (SAt.kept y1 hS))) (hK _ _ ⟨Touch.refl _ _, rfl⟩)⟩),
          (fun QQ aa ww own hS hBg fr kn => .inl ⟨trivial, fun K hK => stepc en_Bytes rfl (args1 kn.1) (Bytes_run P.dv P.db ww hO.db) (fun w' hb => hK _ _ ⟨touch_below hb, rfl⟩)⟩),
          (fun QQ aa ww own hS hBg fr kn => .inl ⟨trivial, fun K hK => wp_value (exec_catS (s := putT (1610612736 + P.cls.toNat * 1048576 + P.flow.toNat) 4 ++ (putT (E.size + P.pay.size) 2) ++ (putT k1.toNat 1) ++ (putT P.hop.toNat 1) ++ (bytT P.sv P.sb)) (t := bytT P.dv P.db) rfl kn.1 kn.2.1 (cat_ok (sz_app (sz_app (sz_app (sz_app (Nat.le_of_eq (putT_size _ _)) (Nat.le_of_eq (putT_size _ _)) (by decide : 4 + 2 = 6)) (Nat.le_of_eq (putT_size _ _)) (by decide : 6 + 1 = 7)) (Nat.le_of_eq (putT_size _ _)) (by decide : 7 + 1 = 8)) hy1 (by decide : 8 + 16 = 24)) hy2 (by decide : 24 + 16 ≤ 9223372036854775807))) (hK _ _ ⟨Touch.refl _ _, rfl⟩)⟩),
          (fun QQ aa ww own hS hBg fr kn => .inl ⟨trivial, fun K hK => wp_value (exec_ld rfl fr.2.1 (ldPs (one_cell (bheap hS y4 y4l)).1)) (hK _ _ ⟨Touch.refl _ _, rfl⟩)⟩),
          (fun QQ aa ww own hS hBg fr kn => .inl ⟨trivial, fun K hK => wp_value (exec_catS (s := putT (1610612736 + P.cls.toNat * 1048576 + P.flow.toNat) 4 ++ (putT (E.size + P.pay.size) 2) ++ (putT k1.toNat 1) ++ (putT P.hop.toNat 1) ++ (bytT P.sv P.sb) ++ (bytT P.dv P.db)) (t := E) rfl kn.1 kn.2.1 (cat_ok (sz_app (sz_app (sz_app (sz_app (sz_app (Nat.le_of_eq (putT_size _ _)) (Nat.le_of_eq (putT_size _ _)) (by decide : 4 + 2 = 6)) (Nat.le_of_eq (putT_size _ _)) (by decide : 6 + 1 = 7)) (Nat.le_of_eq (putT_size _ _)) (by decide : 7 + 1 = 8)) hy1 (by decide : 8 + 16 = 24)) hy2 (by decide : 24 + 16 = 40)) hzE (by decide : 40 + 9000 ≤ 9223372036854775807))) (hK _ _ ⟨Touch.refl _ _, rfl⟩)⟩),
          (fun QQ aa ww own hS hBg fr kn => .inl ⟨trivial, fun K hK => wp_value (exec_fpk 13 (by decide) rfl fr.1) (hK _ _ ⟨Touch.refl _ _, rfl⟩)⟩),
          (fun QQ aa ww own hS hBg fr kn => .inl ⟨trivial, fun K hK => wp_value (exec_ld rfl kn.1 (ldPs (pk_pay (SAt.kept y1 hS)))) (hK _ _ ⟨Touch.refl _ _, rfl⟩)⟩),
          (fun QQ aa ww own hS hBg fr kn => .inl ⟨trivial, fun K hK => wp_value (exec_catS (s := putT (1610612736 + P.cls.toNat * 1048576 + P.flow.toNat) 4 ++ (putT (E.size + P.pay.size) 2) ++ (putT k1.toNat 1) ++ (putT P.hop.toNat 1) ++ (bytT P.sv P.sb) ++ (bytT P.dv P.db) ++ E) (t := P.pay) rfl kn.1 kn.2.1 (cat_ok (sz_app (sz_app (sz_app (sz_app (sz_app (sz_app (Nat.le_of_eq (putT_size _ _)) (Nat.le_of_eq (putT_size _ _)) (by decide : 4 + 2 = 6)) (Nat.le_of_eq (putT_size _ _)) (by decide : 6 + 1 = 7)) (Nat.le_of_eq (putT_size _ _)) (by decide : 7 + 1 = 8)) hy1 (by decide : 8 + 16 = 24)) hy2 (by decide : 24 + 16 = 40)) hzE (by decide : 40 + 9000 = 9040)) hpy (by decide : 9040 + 65575 ≤ 9223372036854775807))) (hK _ _ ⟨Touch.refl _ _, rfl⟩)⟩),
          (fun QQ aa ww own hS hBg fr kn => .inl ⟨trivial, fun K hK => wp_value (exec_assign rfl kn.1) (hK _ _ ⟨Touch.refl _ _, rfl⟩)⟩),
          trivial⟩ ?_
      intro vs own Z hB9 hsz kn inj
      have e2 : vs 2 = .string (putT (1610612736 + P.cls.toNat * 1048576 + P.flow.toNat) 4 ++ (putT (E.size + P.pay.size) 2) ++ (putT k1.toNat 1) ++ (putT P.hop.toNat 1) ++ (bytT P.sv P.sb) ++ (bytT P.dv P.db) ++ E ++ P.pay) := kn.1
      clear kn inj hsz
      simp only [putAll, Act.put, List.setIfInBounds_toArray, List.set_cons_zero, List.set_cons_succ, e2]
      clear e2
      have hKZ := bheap hB9 hKD hDY
      have hBZ := hBY.trans (hB9.mono hBY.size)
      go_wp2_with fail
      refine postM_ret [D] rfl (fun F hF => by simp at hF; rw [hF]; exact hKZ) (by simp) (fun w' ht' hs' => ?_)
      refine ⟨.string SB, ?_, rfl, hBZ.trans (tou_below ht' (fun k hk => by simp at hk; have := hBc.size; omega) hBZ.size)⟩
      rw [HSB.out]
      simp [results, Try.results22]
set_option maxHeartbeats 16000000 in
theorem Build_run (P : Pk) (v : Value) (w : World) (h1 : ExAt w v P.exts) (hO : PkOk P) (hn : P.exts.length < 4611686018427387904) (hb : ∀ x ∈ P.exts, x.body.size ≤ 140737488355328) (hp : P.pay.size ≤ 140737488355328) : Calls Try.prog 10 #[.agg (SC 46 (pkV P v))] w fun e w' => e = .returned (.tuple #[.string (bldT P), .int .i64 (bldE P)]) ∧ Below w.heap.size w w' := by
  have HT : Hid (bldT P = if (rgtP P && fitP P) = true then (if P.sv = true then sixB P else fourB P) else ByteArray.empty) := Hid.mk rfl
  have HE : Hid (bldE P = if rgtP P = true then (if fitP P = true then 0 else 75) else 1) := Hid.mk rfl
  have HRI := Hid.mk (fun ww h => Right_run P v ww h hn hb)
  have HFI : Hid (rgtP P = true → ∀ ww, ExAt ww v P.exts → Calls Try.prog 21 #[.agg (SC 46 (pkV P v))] ww fun e w' => e = .returned (.bool (fitP P)) ∧ Below ww.heap.size ww w') := Hid.mk (fun hr ww h => fits_run P v ww h (by have := rgt_few hr; omega) (by have := rgt_few hr; omega) hp)
  have H6 : Hid (rgtP P = true → fitP P = true → P.sv = true → ∀ ww, ExAt ww v P.exts → Calls Try.prog 22 #[.agg (SC 46 (pkV P v))] ww fun e w' => e = .returned (.string (sixB P)) ∧ Below ww.heap.size ww w') := Hid.mk (fun hr hf h6 ww h => bytes6_run P v ww h hO hr hf h6)
  have H4 : Hid (rgtP P = true → fitP P = true → P.sv = false → ∀ ww, ExAt ww v P.exts → Calls Try.prog 23 #[.agg (SC 46 (pkV P v))] ww fun e w' => e = .returned (.string (fourB P)) ∧ Below ww.heap.size ww w') := Hid.mk (fun hr hf h4 ww h => bytes4_run P v ww h hO hr hf h4)
  generalize bldT P = T at *
  generalize bldE P = E at *
  generalize sixB P = S6 at *
  generalize fourB P = S4 at *
  generalize rgtP P = r at *
  generalize fitP P = f at *
  clear hn hb hp hO
  go_enter Try.func10, Try.ntmps10
  go_wp2_with (refine wl_boxO rfl rfl isPk (by rfl) ?_; intro g1 u2 hg1 q1 hB2; refine Hid.out ?_)
  refine Hid.mk ?_
  have hx1 := h1.kept hB2
  go_wp2_with (first | (refine wl_value rfl (look_st rfl isPk q1 (by rfl)) ?_) | (go_at_call 13; refine (HRI.out _ hx1).mono ?_; rintro e u3 ⟨rfl, hB3⟩; refine Hid.out ?_))
  refine Hid.mk ?_
  have hBa := hB2.trans (hB3.mono hB2.size)
  have q2 := SAt.kept q1 hB3
  have hx2 := hx1.kept hB3
  cases r
  · obtain rfl : T = ByteArray.empty := HT.out
    obtain rfl : E = 1 := HE.out
    go_wp2_with fail
    exact bodyPost_ret (results_two rfl (by rfl) (by rfl)) rfl ⟨rfl, hBa⟩
  · go_wp2_with (first | (refine wl_value rfl (look_st rfl isPk q2 (by rfl)) ?_) | (go_at_call 21; refine (HFI.out rfl _ hx2).mono ?_; rintro e u4 ⟨rfl, hB4⟩; refine Hid.out ?_))
    refine Hid.mk ?_
    have hBb := hBa.trans (hB4.mono hBa.size)
    have q3 := SAt.kept q2 hB4
    have hx3 := hx2.kept hB4
    cases f
    · obtain rfl : T = ByteArray.empty := HT.out
      obtain rfl : E = 75 := HE.out
      go_wp2_with fail
      exact bodyPost_ret (results_two rfl (by rfl) (by rfl)) rfl ⟨rfl, hBb⟩
    · obtain rfl : E = 0 := HE.out
      have s0 := pk_sv q3
      have HK6 : P.sv = true → ∀ ww, ExAt ww v P.exts → Calls Try.prog 22 #[.agg (SC 46 (pkV P v))] ww fun e w' => e = .returned (.string S6) ∧ Below ww.heap.size ww w' := by have := H6.out; simpa using this
      have HK4 : P.sv = false → ∀ ww, ExAt ww v P.exts → Calls Try.prog 23 #[.agg (SC 46 (pkV P v))] ww fun e w' => e = .returned (.string S4) ∧ Below ww.heap.size ww w' := by have := H4.out; simpa using this
      clear H6 H4
      rcases Bool.eq_false_or_eq_true P.sv with hsv | hsv
      · obtain rfl : T = S6 := by rw [HT.out, hsv]; rfl
        rw [hsv] at s0
        have h6c := Hid.mk (fun ww h => HK6 hsv ww h)
        go_wp2_with (first | (refine wl_value rfl (exec_fpk 0 (by decide) rfl (by rfl)) ?_) | (refine wl_value rfl (exec_fad0 rfl (by rfl)) ?_) | (refine wl_value rfl (exec_ld rfl (by rfl) (ldPb s0)) ?_) | (refine wl_value rfl (look_st rfl isPk q3 (by rfl)) ?_) | (go_at_call 22; refine (h6c.out _ hx3).mono ?_; rintro e u5 ⟨rfl, hB5⟩; refine Hid.out ?_))
        refine Hid.mk ?_
        go_wp2_with fail
        exact bodyPost_ret (results_two rfl (by rfl) (by rfl)) rfl ⟨rfl, hBb.trans (hB5.mono hBb.size)⟩
      · obtain rfl : T = S4 := by rw [HT.out, hsv]; rfl
        rw [hsv] at s0
        have h4c := Hid.mk (fun ww h => HK4 hsv ww h)
        go_wp2_with (first | (refine wl_value rfl (exec_fpk 0 (by decide) rfl (by rfl)) ?_) | (refine wl_value rfl (exec_fad0 rfl (by rfl)) ?_) | (refine wl_value rfl (exec_ld rfl (by rfl) (ldPb s0)) ?_) | (refine wl_value rfl (look_st rfl isPk q3 (by rfl)) ?_) | (go_at_call 23; refine (h4c.out _ hx3).mono ?_; rintro e u5 ⟨rfl, hB5⟩; refine Hid.out ?_))
        refine Hid.mk ?_
        go_wp2_with fail
        exact bodyPost_ret (results_two rfl (by rfl) (by rfl)) rfl ⟨rfl, hBb.trans (hB5.mono hBb.size)⟩
theorem en_Build (args : Array Value) (w : World) : (callFunc 10 args).run Try.prog w = .ok (.enter 10 args) w := by kernel_rfl
end Go.Proofs.Ytdlepeogmjmleaa
/-
  Own text. Bytes of packets: the document's side.
-/
namespace Go.Proofs.Ytdlepeogmjmleaa
open Go.RowKit Go.Proofs
set_option maxRecDepth 100000
set_option maxHeartbeats 4000000 in
theorem roneN (N : Nat) (w : World) (h1 : N < 9223372036854775808) : Calls Try.prog 56 #[.int .i64 (N : Int)] w fun e w' => e = .returned (.string (putT N 1)) ∧ Below w.heap.size w w' := by
  have HP : Hid (∀ ww, Calls Try.prog 53 #[.int .u64 (N : Int), .int .i64 1] ww fun e w' => e = .returned (.string (putT N 1)) ∧ Below ww.heap.size ww w') := Hid.mk (fun ww => rPut_run N 1 ww (by omega) (by decide) (by decide))
  generalize putT N 1 = T at *
  go_enter Try.func56, Try.ntmps56
  go_wp2_with (first | (refine wl_value rfl (exec_cvIUn (m := N) rfl (by rfl) h1) ?_) | (go_at_call 53; refine (HP.out _).mono ?_; rintro e w2 ⟨rfl, hB⟩; refine Hid.out ?_))
  refine Hid.mk ?_
  go_wp2_with fail
  go_ret
  exact ⟨rfl, hB⟩
theorem rone_run (n : Int) (w : World) (h0 : 0 ≤ n) (h1 : n < 9223372036854775808) : Calls Try.prog 56 #[.int .i64 n] w fun e w' => e = .returned (.string (putT n.toNat 1)) ∧ Below w.heap.size w w' := by
  obtain ⟨N, rfl⟩ := Int.eq_ofNat_of_zero_le h0
  exact roneN N w (by omega)
set_option maxHeartbeats 4000000 in
theorem rtwoN (N : Nat) (w : World) (h1 : N < 9223372036854775808) : Calls Try.prog 54 #[.int .i64 (N : Int)] w fun e w' => e = .returned (.string (putT N 2)) ∧ Below w.heap.size w w' := by
  have HP : Hid (∀ ww, Calls Try.prog 53 #[.int .u64 (N : Int), .int .i64 2] ww fun e w' => e = .returned (.string (putT N 2)) ∧ Below ww.heap.size ww w') := Hid.mk (fun ww => rPut_run N 2 ww (by omega) (by decide) (by decide))
  generalize putT N 2 = T at *
  go_enter Try.func54, Try.ntmps54
  go_wp2_with (first | (refine wl_value rfl (exec_cvIUn (m := N) rfl (by rfl) h1) ?_) | (go_at_call 53; refine (HP.out _).mono ?_; rintro e w2 ⟨rfl, hB⟩; refine Hid.out ?_))
  refine Hid.mk ?_
  go_wp2_with fail
  go_ret
  exact ⟨rfl, hB⟩
theorem rtwo_run (n : Int) (w : World) (h0 : 0 ≤ n) (h1 : n < 9223372036854775808) : Calls Try.prog 54 #[.int .i64 n] w fun e w' => e = .returned (.string (putT n.toNat 2)) ∧ Below w.heap.size w w' := by
  obtain ⟨N, rfl⟩ := Int.eq_ofNat_of_zero_le h0
  exact rtwoN N w (by omega)
theorem en_rone (args : Array Value) (w : World) : (callFunc 56 args).run Try.prog w = .ok (.enter 56 args) w := by kernel_rfl
theorem en_rtwo (args : Array Value) (w : World) : (callFunc 54 args).run Try.prog w = .ok (.enter 54 args) w := by kernel_rfl
theorem en_rPut (args : Array Value) (w : World) : (callFunc 53 args).run Try.prog w = .ok (.enter 53 args) w := by kernel_rfl
theorem en_rBytes (args : Array Value) (w : World) : (callFunc 57 args).run Try.prog w = .ok (.enter 57 args) w := by kernel_rfl
theorem en_rSum (args : Array Value) (w : World) : (callFunc 58 args).run Try.prog w = .ok (.enter 58 args) w := by kernel_rfl
set_option maxHeartbeats 16000000 in
theorem rNext_run (P : Pk) (v : Value) (i : Nat) (w : World) (h1 : ExAt w v P.exts) (hn : P.exts.length < 4611686018427387904) (hi : i ≤ P.exts.length) (hk : 0 ≤ nextK P (P.exts.drop i) ∧ nextK P (P.exts.drop i) ≤ 255) : Calls Try.prog 55 #[.agg (SC 46 (pkV P v)), .int .i64 (i : Int)] w fun e w' => e = .returned (.string (putT (nextK P (P.exts.drop i)).toNat 1)) ∧ Below w.heap.size w w' := by
  obtain ⟨a1, c1, rfl, _⟩ := id h1
  have HON := Hid.mk (fun ww => rone_run (nextK P (P.exts.drop i)) ww hk.1 (by omega))
  have HK : Hid (∀ x, P.exts[i]? = some x → nextK P (P.exts.drop i) = x.kind) := Hid.mk (fun x hx => (exB_step (P := P) hx).2)
  have HT : Hid (i = P.exts.length → nextK P (P.exts.drop i) = tailK P) := Hid.mk (fun h => by rw [h, List.drop_length]; rfl)
  generalize putT (nextK P (P.exts.drop i)).toNat 1 = S at *
  generalize nextK P (P.exts.drop i) = k0 at *
  obtain ⟨n, hnn⟩ : ∃ n, P.exts.length = n := ⟨_, rfl⟩
  have HN := Hid.mk hnn
  rw [hnn] at h1 hn hi HT ⊢
  clear hnn
  go_enter Try.func55, Try.ntmps55
  go_wp2_with (refine wl_boxO rfl rfl isPk (by rfl) ?_; intro g1 u2 hg1 q1 hB2; refine Hid.out ?_)
  refine Hid.mk ?_
  have hx1 := h1.kept hB2
  have s11 := pk_exts q1
  by_cases hil : i < n
  · have hili : (i : Int) < (n : Int) := by omega
    obtain ⟨x, hx⟩ := list_at (l := P.exts) (i := i) (by rw [HN.out]; exact hil)
    obtain ⟨p1, rfl, k1, k1b⟩ := hx1.sl (Below.refl _ _) hx
    have hkx := HK.out x hx
    rw [hkx] at HON
    have H1 := Hid.mk hil
    have k1' : u2.cell? ((p1.add (2 * i)).add 0) = some (.int .i64 x.kind) := by
      have e0 : (p1.add (2 * i)).add 0 = p1.add (2 * i) := by rw [Addr.add_add, Nat.add_zero]
      rw [e0]
      exact k1
    clear hkx HK HT
    go_wp2_with (first | (refine wl_value rfl (exec_fpk 11 (by decide) rfl (by rfl)) ?_) | (refine wl_value rfl (exec_ld rfl (by rfl) (ldPx s11)) ?_) | (refine wl_value rfl (exec_ixE (i := i) rfl (by rfl) (by rfl) H1.out) ?_) | (refine wl_value rfl (exec_fex 0 (by decide) rfl (by rfl)) ?_) | (refine wl_value rfl (exec_ld rfl (by rfl) (ldP k1')) ?_) | (go_at_call 56; refine (HON.out _).mono ?_; rintro e u3 ⟨rfl, hB3⟩; refine Hid.out ?_))
    refine Hid.mk ?_
    go_wp2_with fail
    go_ret
    exact ⟨rfl, hB2.trans (hB3.mono hB2.size)⟩
  · have hin : i = n := by omega
    subst hin
    have hti := HT.out rfl
    have s12 := pk_cut q1
    have s2 := pk_proto q1
    clear HK HT
    rcases Bool.eq_false_or_eq_true P.cut with hcut | hcut
    · rw [hcut] at s12
      have e1 : k0 = 44 := by rw [hti]; unfold tailK; rw [hcut]; rfl
      subst e1
      clear hti
      go_wp2_with (first | (refine wl_value rfl (exec_fpk 11 (by decide) rfl (by rfl)) ?_) | (refine wl_value rfl (exec_fpk 12 (by decide) rfl (by rfl)) ?_) | (refine wl_value rfl (exec_ld rfl (by rfl) (ldPx s11)) ?_) | (refine wl_value rfl (exec_ld rfl (by rfl) (ldPb s12)) ?_) | (go_at_call 56; refine (HON.out _).mono ?_; rintro e u3 ⟨rfl, hB3⟩; refine Hid.out ?_))
      refine Hid.mk ?_
      go_wp2_with fail
      go_ret
      exact ⟨rfl, hB2.trans (hB3.mono hB2.size)⟩
    · rw [hcut] at s12
      have e1 : k0 = P.proto := by rw [hti]; unfold tailK; rw [hcut]; rfl
      rw [e1] at HON
      clear hti e1
      go_wp2_with (first | (refine wl_value rfl (exec_fpk 11 (by decide) rfl (by rfl)) ?_) | (refine wl_value rfl (exec_fpk 12 (by decide) rfl (by rfl)) ?_) | (refine wl_value rfl (exec_fpk 2 (by decide) rfl (by rfl)) ?_) | (refine wl_value rfl (exec_ld rfl (by rfl) (ldPx s11)) ?_) | (refine wl_value rfl (exec_ld rfl (by rfl) (ldPb s12)) ?_) | (refine wl_value rfl (exec_ld rfl (by rfl) (ldP s2)) ?_) | (go_at_call 56; refine (HON.out _).mono ?_; rintro e u3 ⟨rfl, hB3⟩; refine Hid.out ?_))
      refine Hid.mk ?_
      go_wp2_with fail
      go_ret
      exact ⟨rfl, hB2.trans (hB3.mono hB2.size)⟩
theorem en_rNext (args : Array Value) (w : World) : (callFunc 55 args).run Try.prog w = .ok (.enter 55 args) w := by kernel_rfl
theorem run_bsT3 (s t u : ByteArray) (w : World) : (Instr.buildSlice 71 3 #[(0, .string s), (1, .string t), (2, .string u)]).run Try.prog w = .ok (.slice (some ⟨w.heap.size, 0, none⟩) 3 3) (w.alloc (.cells #[.string s, .string t, .string u] 9)) := by simp [go_sem]
theorem act_bsT3 {o : Oper} {a : Act} {w : World} {K : Act → World → Prop} {Q : Exit → Act → World → Prop} {x y z : Operand} (ho : o.op = .buildSlice 71 3 #[(0, x), (1, y), (2, z)]) {s t u : ByteArray} (hx : a.eval x = .string s) (hy : a.eval y = .string t) (hz : a.eval z = .string u)
    (h : ∀ w', Below w.heap.size w w' → w.heap.size ≤ w.heap.size → ContOK (isOb #[.string s, .string t, .string u] 9) w' w.heap.size → K (a.put o.dst (.slice (some ⟨w.heap.size, 0, none⟩) 3 3)) w') : o.wp Try.prog a w K Q := by
  have hr := run_bsT3 s t u w
  unfold Oper.wp execOp
  simp only [ho, List.map_toArray, List.map_cons, List.map_nil, hx, hy, hz, Sem.run_bind, hr, Result.andThen_ok, Sem.run_pure, Oper.upon]
  exact h _ ((Below.refl _ w).alloc (Nat.le_refl _) _) (Nat.le_refl _) (obIn (heap_alloc_new w _))
def thr3 (s t u : ByteArray) : Nat → ByteArray
  | 0 => s
  | 1 => t
  | _ => u
theorem sumT_gap {A B : ByteArray} (hA : A.size % 2 = 0) : sumT (A ++ ⟨#[0, 0]⟩ ++ B) = sumT (A ++ B) := by
  have hz : (⟨#[0, 0]⟩ : ByteArray).size = 2 := rfl
  have t0 : txt ⟨#[0, 0]⟩ 0 = 0 := rfl
  have t1 : txt ⟨#[0, 0]⟩ 1 = 0 := rfl
  have e2 : sw (txt ⟨#[0, 0]⟩) 2 = 0 := by
    show (0 + (if 0 % 2 = 0 then 256 * txt ⟨#[0, 0]⟩ 0 else txt ⟨#[0, 0]⟩ 0)) + (if 1 % 2 = 0 then 256 * txt ⟨#[0, 0]⟩ 1 else txt ⟨#[0, 0]⟩ 1) = 0
    rw [t0, t1]
    rfl
  have h1 : (A ++ (⟨#[0, 0]⟩ : ByteArray)).size % 2 = 0 := by rw [ByteArray.size_append, hz]; omega
  unfold sumT
  rw [ByteArray.size_append, ByteArray.size_append (a := A) (b := B), sw_app _ B h1, sw_app A B hA]
  have h2 : sw (txt (A ++ (⟨#[0, 0]⟩ : ByteArray))) (A ++ (⟨#[0, 0]⟩ : ByteArray)).size = sw (txt A) A.size := by
    rw [ByteArray.size_append, sw_app A _ hA, hz, e2, Int.add_zero]
  rw [h2]
theorem rSum3_run (A B : ByteArray) (ww : World) (g : Nat) (hA : A.size % 2 = 0) (hA2 : A.size ≤ 1000000) (hB2 : B.size ≤ 1000000) (hc : ContOK (isOb #[.string A, .string ⟨#[0, 0]⟩, .string B] 9) ww g) : Calls Try.prog 58 #[.slice (some ⟨g, 0, none⟩) 3 3] ww fun e w' => e = .returned (.int .i64 (sumT (A ++ B))) ∧ Below ww.heap.size ww w' := by
  have hz : (⟨#[0, 0]⟩ : ByteArray).size = 2 := rfl
  have hj : joinB (thr3 A ⟨#[0, 0]⟩ B) 3 = A ++ ⟨#[0, 0]⟩ ++ B := by simp [joinB, thr3]
  have hv : Strs ww (.slice (some ⟨g, 0, none⟩) 3 3) 3 (thr3 A ⟨#[0, 0]⟩ B) := strs_row' (obAt hc) (fun j hj => by
    match j, hj with
    | 0, _ => rfl
    | 1, _ => rfl
    | 2, _ => rfl)
  have := rSum_run _ 3 _ ww hv (by decide) (by rw [hj, ByteArray.size_append, ByteArray.size_append, hz]; omega)
  rw [hj, sumT_gap hA] at this
  exact this
set_option maxHeartbeats 16000000 in
theorem rFour_run (P : Pk) (v : Value) (w : World) (h1 : ExAt w v P.exts) (hO : PkOk P) (hr : rgtP P = true) (hf : fitP P = true) (h4 : P.sv = false) : Calls Try.prog 26 #[.agg (SC 46 (pkV P v))] w fun e w' => e = .returned (.string (fourB P)) ∧ Below w.heap.size w w' := by
  obtain ⟨hv1, hv2, _, hpr, hho, hcl, hof, ho8, hrr⟩ := rgtP_iff.1 hr
  rw [if_neg (by rw [h4]; decide)] at hrr
  obtain ⟨hid, _, hop, _, hex, _⟩ := rgt4_iff.1 hrr
  have hE : exLen P.exts ≤ 1000000 := by rw [hex]; decide
  have hfi : headP P + P.pay.size ≤ 65535 := by
    unfold fitP at hf
    rw [if_neg (by rw [h4]; decide)] at hf
    simpa using hf
  have hh : headP P = 20 + P.opts.size := by unfold headP; rw [if_neg (by rw [h4]; decide)]
  have hm1 := bN_lt P.more 8192
  have hm2 := bN_lt P.still 16384
  have hy1 := bytT_size P.sv P.sb
  have hy2 := bytT_size P.dv P.db
  have za := a4_size P
  have zb := b4_size hr h4
  have hsu := sum_nat (a4 P ++ b4 P)
  have HSM : Hid (∀ ww g, ContOK (isOb #[.string (a4 P), .string ⟨#[0, 0]⟩, .string (b4 P)] 9) ww g → Calls Try.prog 58 #[.slice (some ⟨g, 0, none⟩) 3 3] ww fun e w' => e = .returned (.int .i64 (sumT (a4 P ++ b4 P))) ∧ Below ww.heap.size ww w') := Hid.mk (fun ww g hc => rSum3_run (a4 P) (b4 P) ww g (by omega) (by omega) (by omega) hc)
  have HST : Hid (∀ ww, Calls Try.prog 54 #[.int .i64 (sumT (a4 P ++ b4 P))] ww fun e w' => e = .returned (.string (putT (sumT (a4 P ++ b4 P)).toNat 2)) ∧ Below ww.heap.size ww w') := Hid.mk (fun ww => rtwo_run _ ww (by omega) (by omega))
  have hS0 : (putT (sumT (a4 P ++ b4 P)).toNat 2).size = 2 := putT_size _ _
  have hzB : (b4 P).size ≤ 48 := by omega
  have hpy : P.pay.size ≤ 65575 := by omega
  have HFB : Hid (fourB P = a4 P ++ putT (sumT (a4 P ++ b4 P)).toNat 2 ++ b4 P ++ P.pay) := Hid.mk rfl
  have HA : Hid (a4 P = putT (64 + headP P / 4) 1 ++ putT P.cls.toNat 1 ++ putT (headP P + P.pay.size) 2 ++ putT P.id.toNat 2 ++ putT (P.off.toNat / 8 + bN P.more 8192 + bN P.still 16384) 2 ++ putT P.hop.toNat 1 ++ putT P.proto.toNat 1) := Hid.mk rfl
  have HBB : Hid (b4 P = bytT P.sv P.sb ++ bytT P.dv P.db ++ P.opts) := Hid.mk rfl
  have HH := Hid.mk (fun ww h => rHead_run P v ww h (by omega) hE)
  have hHl : headP P ≤ 60 := by omega
  clear hh zb hsu
  generalize fourB P = FB at *
  generalize putT (sumT (a4 P ++ b4 P)).toNat 2 = S at *
  generalize sumT (a4 P ++ b4 P) = Z at *
  generalize a4 P = A at *
  generalize b4 P = B at *
  generalize headP P = H at *
  go_enter Try.func26, Try.ntmps26
  go_wp2_with (refine wl_boxO rfl rfl isPk (by rfl) ?_; intro g1 u2 hg1 q1 hB2; refine Hid.out ?_)
  refine Hid.mk ?_
  have hx1 := h1.kept hB2
  have s6 := pk_off q1
  have s7 := pk_more q1
  have s8 := pk_still q1
  have HM : Hid (bN P.more 8192 = if P.more = true then 8192 else 0) := Hid.mk rfl
  have HS : Hid (bN P.still 16384 = if P.still = true then 16384 else 0) := Hid.mk rfl
  obtain ⟨O8, hO8⟩ : ∃ O8, P.off.toNat / 8 = O8 := ⟨_, rfl⟩
  have HO8 := Hid.mk hO8
  have hO8l : O8 ≤ 8191 := by omega
  have HQ : Hid (∀ N : Nat, N = P.off.toNat / 8 + bN P.more 8192 + bN P.still 16384 → True) := Hid.mk (fun _ _ => trivial)
  clear hO8 HQ
  have key : ∃ N : Nat, N = P.off.toNat / 8 + bN P.more 8192 + bN P.still 16384 := ⟨_, rfl⟩
  obtain ⟨N, hN⟩ := key
  rw [← hN] at HA
  have HNN := Hid.mk hN
  have hNl : N ≤ 40000 := by omega
  clear hN
  go_upto_if 10 with (first | (refine wl_value rfl (exec_fpk 6 (by decide) rfl (by rfl)) ?_) | (refine wl_value rfl (exec_fpk 7 (by decide) rfl (by rfl)) ?_) | (refine wl_value rfl (exec_ld rfl (by rfl) (ldP s6)) ?_) | (refine wl_value rfl (exec_ld rfl (by rfl) (ldPb s7)) ?_) | (refine wl_value rfl (exec_quoZ (m := 8) (q := O8) rfl (by rfl) (by rfl) hof.1 (by omega) (by decide) HO8.out) ?_))
  simp only [Act.put, List.setIfInBounds_toArray, List.set_cons_zero, List.set_cons_succ]
  go_cut [3, 10, 11, 12] (fun s3 s10 s11 s12 z => s3 = .int .i64 ((O8 + bN P.more 8192 : Nat) : Int) ∧ SAt z g1 27 46 (pkV P v) ∧ ExAt z v P.exts ∧ Below w.heap.size w z)
  case first =>
    cases hmo : P.more
    · rw [hmo] at s7
      have e1 : bN P.more 8192 = 0 := by rw [HM.out, hmo]; rfl
      go_wp2_with fail
      go_meet
      case rel => exact ⟨by rw [e1]; rfl, q1, hx1, hB2⟩
    · rw [hmo] at s7
      have e1 : bN P.more 8192 = 8192 := by rw [HM.out, hmo]; rfl
      go_wp2_with (refine wl_value rfl (exec_addW (i := O8) (m := 8192) rfl (by rfl) (by rfl) rfl (by omega)) ?_)
      go_meet
      case rel => exact ⟨by rw [e1]; rfl, q1, hx1, hB2⟩
  case rest =>
    obtain ⟨rfl, r1, r2, r3⟩ := hcut
    have s8 := pk_still r1
    obtain ⟨O9, hO9⟩ : ∃ O9, O8 + bN P.more 8192 = O9 := ⟨_, rfl⟩
    rw [hO9]
    have hO9l : O9 ≤ 16383 := by omega
    have HO9 := Hid.mk hO9
    clear hO9
    go_upto_if 14 with (first | (refine wl_value rfl (exec_fpk 8 (by decide) rfl (by rfl)) ?_) | (refine wl_value rfl (exec_ld rfl (by rfl) (ldPb s8)) ?_))
    simp only [Act.put, List.setIfInBounds_toArray, List.set_cons_zero, List.set_cons_succ]
    go_cut [3, 14, 15, 16] (fun s3 s14 s15 s16 z => s3 = .int .i64 ((O9 + bN P.still 16384 : Nat) : Int) ∧ SAt z g1 27 46 (pkV P v) ∧ ExAt z v P.exts ∧ Below w.heap.size w z)
    case first =>
      cases hmo : P.still
      · rw [hmo] at s8
        have e1 : bN P.still 16384 = 0 := by rw [HS.out, hmo]; rfl
        go_wp2_with fail
        go_meet
        case rel => exact ⟨by rw [e1]; rfl, r1, r2, r3⟩
      · rw [hmo] at s8
        have e1 : bN P.still 16384 = 16384 := by rw [HS.out, hmo]; rfl
        go_wp2_with (refine wl_value rfl (exec_addW (i := O9) (m := 16384) rfl (by rfl) (by rfl) rfl (by omega)) ?_)
        go_meet
        case rel => exact ⟨by rw [e1]; rfl, r1, r2, r3⟩
    case rest =>
      obtain ⟨rfl, q3, hx2, hBa⟩ := hcut
      have e3 : O9 + bN P.still 16384 = N := by have h1' := HO9.out; have h2' := HO8.out; have h3' := HNN.out; omega
      rw [e3]
      clear e3 HM HS HO8 HO9 HNN s6 s7 s8 r1 r2 r3
      go_upto_region 6 with fail
      refine wp_region3 (Below wc.heap.size wc) wc.heap.size
          ([] : List (Nat × Cont))
          (kv (.agg (SC 46 (pkV P v))) :: kv (.int .i64 (H : Int)) :: kv (.int .i64 ((H / 4 : Nat) : Int)) :: kv (.int .i64 ((64 + H / 4 : Nat) : Int)) :: kv (.string (putT (64 + H / 4) 1)) :: kv (.pointer (some ⟨g1, 36, none⟩)) :: kv (.int .i64 P.cls) :: kv (.string (putT P.cls.toNat 1)) :: kv (.string (putT (64 + H / 4) 1 ++ (putT P.cls.toNat 1))) :: kv (.agg (SC 46 (pkV P v))) :: kv (.int .i64 (H : Int)) :: kv (.pointer (some ⟨g1, 45, none⟩)) :: kv (.string P.pay) :: kv (.int .i64 (P.pay.size : Int)) :: kv (.int .i64 ((H + P.pay.size : Nat) : Int)) :: kv (.string (putT (H + P.pay.size) 2)) :: kv (.string (putT (64 + H / 4) 1 ++ (putT P.cls.toNat 1) ++ (putT (H + P.pay.size) 2))) :: kv (.pointer (some ⟨g1, 37, none⟩)) :: kv (.int .i64 P.id) :: kv (.string (putT P.id.toNat 2)) :: kv (.string (putT (64 + H / 4) 1 ++ (putT P.cls.toNat 1) ++ (putT (H + P.pay.size) 2) ++ (putT P.id.toNat 2))) :: kv (.int .i64 ((N : Nat) : Int)) :: kv (.string (putT N 2)) :: kv (.string (putT (64 + H / 4) 1 ++ (putT P.cls.toNat 1) ++ (putT (H + P.pay.size) 2) ++ (putT P.id.toNat 2) ++ (putT N 2))) :: kv (.pointer (some ⟨g1, 35, none⟩)) :: kv (.int .i64 P.hop) :: kv (.string (putT P.hop.toNat 1)) :: kv (.string (putT (64 + H / 4) 1 ++ (putT P.cls.toNat 1) ++ (putT (H + P.pay.size) 2) ++ (putT P.id.toNat 2) ++ (putT N 2) ++ (putT P.hop.toNat 1))) :: kv (.pointer (some ⟨g1, 34, none⟩)) :: kv (.int .i64 P.proto) :: kv (.string (putT P.proto.toNat 1)) :: kv (.string (putT (64 + H / 4) 1 ++ (putT P.cls.toNat 1) ++ (putT (H + P.pay.size) 2) ++ (putT P.id.toNat 2) ++ (putT N 2) ++ (putT P.hop.toNat 1) ++ (putT P.proto.toNat 1))) :: kv (.string (putT (64 + H / 4) 1 ++ (putT P.cls.toNat 1) ++ (putT (H + P.pay.size) 2) ++ (putT P.id.toNat 2) ++ (putT N 2) ++ (putT P.hop.toNat 1) ++ (putT P.proto.toNat 1))) :: [])
          (.none :: .none :: .none :: .none :: .none :: .none :: .none :: .none :: .none :: .none :: .none :: .none :: .none :: .none :: .none :: .none :: .none :: .none :: .none :: .none :: .none :: .none :: .none :: .none :: .none :: .none :: .none :: .none :: .none :: .none :: .none :: .none :: .none :: [])
          (some 17 :: some 18 :: some 19 :: some 20 :: some 21 :: some 22 :: some 23 :: some 24 :: some 25 :: some 26 :: some 27 :: some 28 :: some 29 :: some 30 :: some 31 :: some 32 :: some 33 :: some 34 :: some 35 :: some 36 :: some 37 :: some 38 :: some 39 :: some 40 :: some 41 :: some 42 :: some 43 :: some 44 :: some 45 :: some 46 :: some 47 :: some 48 :: some 4 :: [])
          [(1, .pointer (some ⟨g1, 0, none⟩)), (3, .int .i64 ((N : Nat) : Int))]
          ([] :: [.slot 0] :: [.slot 1] :: [.slot 2] :: [.slot 3] :: [] :: [.slot 5] :: [.slot 6] :: [.slot 4, .slot 7] :: [] :: [.slot 9] :: [] :: [.slot 11] :: [.slot 12] :: [.slot 10, .slot 13] :: [.slot 14] :: [.slot 8, .slot 15] :: [] :: [.slot 17] :: [.slot 18] :: [.slot 16, .slot 19] :: [] :: [.slot 21] :: [.slot 20, .slot 22] :: [] :: [.slot 24] :: [.slot 25] :: [.slot 23, .slot 26] :: [] :: [.slot 28] :: [.slot 29] :: [.slot 27, .slot 30] :: [.slot 31] :: [])
          [.slot 32] (17 :: 18 :: 19 :: 20 :: 21 :: 22 :: 23 :: 24 :: 25 :: 26 :: 27 :: 28 :: 29 :: 30 :: 31 :: 32 :: 33 :: 34 :: 35 :: 36 :: 37 :: 38 :: 39 :: 40 :: 41 :: 42 :: 43 :: 44 :: 45 :: 46 :: 47 :: 48 :: 4 :: [])
          rfl (by kernel_rfl) ⟨rfl, rfl, trivial⟩ ((Below.refl _ wc).drew) (Nat.le_refl _) trivial trivial (below_GcW (Nat.le_refl _))
          ⟨
          (fun QQ aa ww own hS hBg fr kn => .inl ⟨trivial, fun K hK => wp_value (look_st rfl isPk (SAt.kept q3 hS) fr.1) (hK _ _ ⟨Touch.refl _ _, rfl⟩)⟩),
          (fun QQ aa ww own hS hBg fr kn => .inl ⟨trivial, fun K hK => stepc en_rHead rfl (args1 kn.1) (HH.out ww (hx2.kept hS)) (fun w' hb => hK _ _ ⟨touch_below hb, rfl⟩)⟩),
          (fun QQ aa ww own hS hBg fr kn => .inl ⟨trivial, fun K hK => wp_value (exec_quoW (i := H) (m := 4) rfl kn.1 rfl rfl (by decide) (by omega)) (hK _ _ ⟨Touch.refl _ _, rfl⟩)⟩),
          (fun QQ aa ww own hS hBg fr kn => .inl ⟨trivial, fun K hK => wp_value (exec_addW (i := 64) (m := H / 4) rfl rfl kn.1 rfl (by omega)) (hK _ _ ⟨Touch.refl _ _, rfl⟩)⟩),
          (fun QQ aa ww own hS hBg fr kn => .inl ⟨trivial, fun K hK => stepc en_rone rfl (args1 kn.1) (roneN (64 + H / 4) ww (by omega)) (fun w' hb => hK _ _ ⟨touch_below hb, rfl⟩)⟩),
          (fun QQ aa ww own hS hBg fr kn => .inl ⟨trivial, fun K hK => wp_value (exec_fpk 4 (by decide) rfl fr.1) (hK _ _ ⟨Touch.refl _ _, rfl⟩)⟩),
          (fun QQ aa ww own hS hBg fr kn => .inl ⟨trivial, fun K hK => wp_value (exec_ld rfl kn.1 (ldP (pk_cls (SAt.kept q3 hS)))) (hK _ _ ⟨Touch.refl _ _, rfl⟩)⟩),
          (fun QQ aa ww own hS hBg fr kn => .inl ⟨trivial, fun K hK => stepc en_rone rfl (args1 kn.1) (rone_run P.cls ww (by omega) (by omega)) (fun w' hb => hK _ _ ⟨touch_below hb, rfl⟩)⟩),
          (fun QQ aa ww own hS hBg fr kn => .inl ⟨trivial, fun K hK => wp_value (exec_catS (s := putT (64 + H / 4) 1) (t := putT P.cls.toNat 1) rfl kn.1 kn.2.1 (cat_ok (Nat.le_of_eq (putT_size _ _)) (Nat.le_of_eq (putT_size _ _)) (by decide : 1 + 1 ≤ 9223372036854775807))) (hK _ _ ⟨Touch.refl _ _, rfl⟩)⟩),
          (fun QQ aa ww own hS hBg fr kn => .inl ⟨trivial, fun K hK => wp_value (look_st rfl isPk (SAt.kept q3 hS) fr.1) (hK _ _ ⟨Touch.refl _ _, rfl⟩)⟩),
          (fun QQ aa ww own hS hBg fr kn => .inl ⟨trivial, fun K hK => stepc en_rHead rfl (args1 kn.1) (HH.out ww (hx2.kept hS)) (fun w' hb => hK _ _ ⟨touch_below hb, rfl⟩)⟩),
          (fun QQ aa ww own hS hBg fr kn => .inl ⟨trivial, fun K hK => wp_value (exec_fpk 13 (by decide) rfl fr.1) (hK _ _ ⟨Touch.refl _ _, rfl⟩)⟩),
          (fun QQ aa ww own hS hBg fr kn => .inl ⟨trivial, fun K hK => wp_value (exec_ld rfl kn.1 (ldPs (pk_pay (SAt.kept q3 hS)))) (hK _ _ ⟨Touch.refl _ _, rfl⟩)⟩),
          (fun QQ aa ww own hS hBg fr kn => .inl ⟨trivial, fun K hK => wp_value (exec_lenS rfl kn.1) (hK _ _ ⟨Touch.refl _ _, rfl⟩)⟩),
          (fun QQ aa ww own hS hBg fr kn => .inl ⟨trivial, fun K hK => wp_value (exec_addW (i := H) (m := P.pay.size) rfl kn.1 kn.2.1 rfl (by omega)) (hK _ _ ⟨Touch.refl _ _, rfl⟩)⟩),
          (fun QQ aa ww own hS hBg fr kn => .inl ⟨trivial, fun K hK => stepc en_rtwo rfl (args1 kn.1) (rtwoN (H + P.pay.size) ww (by omega)) (fun w' hb => hK _ _ ⟨touch_below hb, rfl⟩)⟩),
          (fun QQ aa ww own hS hBg fr kn => .inl ⟨trivial, fun K hK => wp_value (exec_catS (s := putT (64 + H / 4) 1 ++ (putT P.cls.toNat 1)) (t := putT (H + P.pay.size) 2) rfl kn.1 kn.2.1 (cat_ok (sz_app (Nat.le_of_eq (putT_size _ _)) (Nat.le_of_eq (putT_size _ _)) (by decide : 1 + 1 = 2)) (Nat.le_of_eq (putT_size _ _)) (by decide : 2 + 2 ≤ 9223372036854775807))) (hK _ _ ⟨Touch.refl _ _, rfl⟩)⟩),
          (fun QQ aa ww own hS hBg fr kn => .inl ⟨trivial, fun K hK => wp_value (exec_fpk 5 (by decide) rfl fr.1) (hK _ _ ⟨Touch.refl _ _, rfl⟩)⟩),
          (fun QQ aa ww own hS hBg fr kn => .inl ⟨trivial, fun K hK => wp_value (exec_ld rfl kn.1 (ldP (pk_id (SAt.kept q3 hS)))) (hK _ _ ⟨Touch.refl _ _, rfl⟩)⟩),
          (fun QQ aa ww own hS hBg fr kn => .inl ⟨trivial, fun K hK => stepc en_rtwo rfl (args1 kn.1) (rtwo_run P.id ww (by omega) (by omega)) (fun w' hb => hK _ _ ⟨touch_below hb, rfl⟩)⟩),
          (fun QQ aa ww own hS hBg fr kn => .inl ⟨trivial, fun K hK => wp_value (exec_catS (s := putT (64 + H / 4) 1 ++ (putT P.cls.toNat 1) ++ (putT (H + P.pay.size) 2)) (t := putT P.id.toNat 2) rfl kn.1 kn.2.1 (cat_ok (sz_app (sz_app (Nat.le_of_eq (putT_size _ _)) (Nat.le_of_eq (putT_size _ _)) (by decide : 1 + 1 = 2)) (Nat.le_of_eq (putT_size _ _)) (by decide : 2 + 2 = 4)) (Nat.le_of_eq (putT_size _ _)) (by decide : 4 + 2 ≤ 9223372036854775807))) (hK _ _ ⟨Touch.refl _ _, rfl⟩)⟩),
          (fun QQ aa ww own hS hBg fr kn => .inl ⟨trivial, fun K hK => wp_value (exec_move rfl fr.2.1) (hK _ _ ⟨Touch.refl _ _, rfl⟩)⟩),
          (fun QQ aa ww own hS hBg fr kn => .inl ⟨trivial, fun K hK => stepc en_rtwo rfl (args1 kn.1) (rtwoN N ww (by omega)) (fun w' hb => hK _ _ ⟨touch_below hb, rfl⟩)⟩),
          (fun QQ aa ww own hS hBg fr kn => .inl ⟨trivial, fun K hK => wp_value (exec_catS (s := putT (64 + H / 4) 1 ++ (putT P.cls.toNat 1) ++ (putT (H + P.pay.size) 2) ++ (putT P.id.toNat 2)) (t := putT N 2) rfl kn.1 kn.2.1 (cat_ok (sz_app (sz_app (sz_app (Nat.le_of_eq (putT_size _ _)) (Nat.le_of_eq (putT_size _ _)) (by decide : 1 + 1 = 2)) (Nat.le_of_eq (putT_size _ _)) (by decide : 2 + 2 = 4)) (Nat.le_of_eq (putT_size _ _)) (by decide : 4 + 2 = 6)) (Nat.le_of_eq (putT_size _ _)) (by decide : 6 + 2 ≤ 9223372036854775807))) (hK _ _ ⟨Touch.refl _ _, rfl⟩)⟩),
          (fun QQ aa ww own hS hBg fr kn => .inl ⟨trivial, fun K hK => wp_value (exec_fpk 3 (by decide) rfl fr.1) (hK _ _ ⟨Touch.refl _ _, rfl⟩)⟩),
          (fun QQ aa ww own hS hBg fr kn => .inl ⟨trivial, fun K hK => wp_value (exec_ld rfl kn.1 (ldP (pk_hop (SAt.kept q3 hS)))) (hK _ _ ⟨Touch.refl _ _, rfl⟩)⟩),
          (fun QQ aa ww own hS hBg fr kn => .inl ⟨trivial, fun K hK => stepc en_rone rfl (args1 kn.1) (rone_run P.hop ww (by omega) (by omega)) (fun w' hb => hK _ _ ⟨touch_below hb, rfl⟩)⟩),
          (fun QQ aa ww own hS hBg fr kn => .inl ⟨trivial, fun K hK => wp_value (exec_catS (s := putT (64 + H / 4) 1 ++ (putT P.cls.toNat 1) ++ (putT (H + P.pay.size) 2) ++ (putT P.id.toNat 2) ++ (putT N 2)) (t := putT P.hop.toNat 1) rfl kn.1 kn.2.1 (cat_ok (sz_app (sz_app (sz_app (sz_app (Nat.le_of_eq (putT_size _ _)) (Nat.le_of_eq (putT_size _ _)) (by decide : 1 + 1 = 2)) (Nat.le_of_eq (putT_size _ _)) (by decide : 2 + 2 = 4)) (Nat.le_of_eq (putT_size _ _)) (by decide : 4 + 2 = 6)) (Nat.le_of_eq (putT_size _ _)) (by decide : 6 + 2 = 8)) (Nat.le_of_eq (putT_size _ _)) (by decide : 8 + 1 ≤ 9223372036854775807))) (hK _ _ ⟨Touch.refl _ _, rfl⟩)⟩),
          (fun QQ aa ww own hS hBg fr kn => .inl ⟨trivial, fun K hK => wp_value (exec_fpk 2 (by decide) rfl fr.1) (hK _ _ ⟨Touch.refl _ _, rfl⟩)⟩),
          (fun QQ aa ww own hS hBg fr kn => .inl ⟨trivial, fun K hK => wp_value (exec_ld rfl kn.1 (ldP (pk_proto (SAt.kept q3 hS)))) (hK _ _ ⟨Touch.refl _ _, rfl⟩)⟩),
          (fun QQ aa ww own hS hBg fr kn => .inl ⟨trivial, fun K hK => stepc en_rone rfl (args1 kn.1) (rone_run P.proto ww (by omega) (by omega)) (fun w' hb => hK _ _ ⟨touch_below hb, rfl⟩)⟩),
          (fun QQ aa ww own hS hBg fr kn => .inl ⟨trivial, fun K hK => wp_value (exec_catS (s := putT (64 + H / 4) 1 ++ (putT P.cls.toNat 1) ++ (putT (H + P.pay.size) 2) ++ (putT P.id.toNat 2) ++ (putT N 2) ++ (putT P.hop.toNat 1)) (t := putT P.proto.toNat 1) rfl kn.1 kn.2.1 (cat_ok (sz_app (sz_app (sz_app (sz_app (sz_app (Nat.le_of_eq (putT_size _ _)) (Nat.le_of_eq (putT_size _ _)) (by decide : 1 + 1 = 2)) (Nat.le_of_eq (putT_size _ _)) (by decide : 2 + 2 = 4)) (Nat.le_of_eq (putT_size _ _)) (by decide : 4 + 2 = 6)) (Nat.le_of_eq (putT_size _ _)) (by decide : 6 + 2 = 8)) (Nat.le_of_eq (putT_size _ _)) (by decide : 8 + 1 = 9)) (Nat.le_of_eq (putT_size _ _)) (by decide : 9 + 1 ≤ 9223372036854775807))) (hK _ _ ⟨Touch.refl _ _, rfl⟩)⟩),
          (fun QQ aa ww own hS hBg fr kn => .inl ⟨trivial, fun K hK => wp_value (exec_assign rfl kn.1) (hK _ _ ⟨Touch.refl _ _, rfl⟩)⟩),
          trivial⟩ ?_
      intro vs own u4 hB4 hsz kn inj
      have e4 : vs 4 = .string (putT (64 + H / 4) 1 ++ (putT P.cls.toNat 1) ++ (putT (H + P.pay.size) 2) ++ (putT P.id.toNat 2) ++ (putT N 2) ++ (putT P.hop.toNat 1) ++ (putT P.proto.toNat 1)) := kn.1
      clear kn inj hsz
      simp only [putAll, Act.put, List.setIfInBounds_toArray, List.set_cons_zero, List.set_cons_succ, e4]
      clear e4
      have hBb := hBa.trans (hB4.mono hBa.size)
      have q4 := SAt.kept q3 hB4
      rw [← HA.out]
      go_upto_region 7 with fail
      refine wp_region3 (Below u4.heap.size u4) u4.heap.size
          ([] : List (Nat × Cont))
          [kv (.pointer (some ⟨g1, 0, none⟩)), kv (.agg (SC 17 (adV P.sv P.sb))), kv (.string (bytT P.sv P.sb)), kv (.pointer (some ⟨g1, 17, none⟩)), kv (.agg (SC 17 (adV P.dv P.db))), kv (.string (bytT P.dv P.db)), kv (.string (bytT P.sv P.sb ++ (bytT P.dv P.db))), kv (.pointer (some ⟨g1, 41, none⟩)), kv (.string P.opts), kv (.string (bytT P.sv P.sb ++ (bytT P.dv P.db) ++ P.opts)), kv (.string (bytT P.sv P.sb ++ (bytT P.dv P.db) ++ P.opts))]
          [.none, .none, .none, .none, .none, .none, .none, .none, .none, .none, .none]
          [some 49, some 50, some 51, some 52, some 53, some 54, some 55, some 56, some 57, some 58, some 5]
          [(1, .pointer (some ⟨g1, 0, none⟩))]
          [[], [.slot 0], [.slot 1], [], [.slot 3], [.slot 4], [.slot 2, .slot 5], [], [.slot 7], [.slot 6, .slot 8], [.slot 9]]
          [.slot 10] [49, 50, 51, 52, 53, 54, 55, 56, 57, 58, 5]
          rfl (by kernel_rfl) ⟨rfl, trivial⟩ ((Below.refl _ u4).drew) (Nat.le_refl _) trivial trivial (below_GcW (Nat.le_refl _))
          ⟨
          (fun QQ aa ww own hS hBg fr kn => .inl ⟨trivial, fun K hK => wp_value (exec_fpk 0 (by decide) rfl fr.1) (hK _ _ ⟨Touch.refl _ _, rfl⟩)⟩),
          (fun QQ aa ww own hS hBg fr kn => .inl ⟨trivial, fun K hK => wp_value (exec_ld rfl kn.1 (ld_src (SAt.kept q4 hS))) (hK _ _ ⟨Touch.refl _ _, rfl⟩)⟩),
          (fun QQ aa ww own hS hBg fr kn => .inl ⟨trivial, fun K hK => stepc en_rBytes rfl (args1 kn.1) (rBytes_run P.sv P.sb ww hO.sb) (fun w' hb => hK _ _ ⟨touch_below hb, rfl⟩)⟩),
          (fun QQ aa ww own hS hBg fr kn => .inl ⟨trivial, fun K hK => wp_value (exec_fpk 1 (by decide) rfl fr.1) (hK _ _ ⟨Touch.refl _ _, rfl⟩)⟩),
          (fun QQ aa ww own hS hBg fr kn => .inl ⟨trivial, fun K hK => wp_value (exec_ld rfl kn.1 (ld_dst (SAt.kept q4 hS))) (hK _ _ ⟨Touch.refl _ _, rfl⟩)⟩),
          (fun QQ aa ww own hS hBg fr kn => .inl ⟨trivial, fun K hK => stepc en_rBytes rfl (args1 kn.1) (rBytes_run P.dv P.db ww hO.db) (fun w' hb => hK _ _ ⟨touch_below hb, rfl⟩)⟩),
          (fun QQ aa ww own hS hBg fr kn => .inl ⟨trivial, fun K hK => wp_value (exec_catS (s := bytT P.sv P.sb) (t := bytT P.dv P.db) rfl kn.1 kn.2.1 (cat_ok hy1 hy2 (by decide : 16 + 16 ≤ 9223372036854775807))) (hK _ _ ⟨Touch.refl _ _, rfl⟩)⟩),
          (fun QQ aa ww own hS hBg fr kn => .inl ⟨trivial, fun K hK => wp_value (exec_fpk 9 (by decide) rfl fr.1) (hK _ _ ⟨Touch.refl _ _, rfl⟩)⟩),
          (fun QQ aa ww own hS hBg fr kn => .inl ⟨trivial, fun K hK => wp_value (exec_ld rfl kn.1 (ldPs (pk_opts (SAt.kept q4 hS)))) (hK _ _ ⟨Touch.refl _ _, rfl⟩)⟩),
          (fun QQ aa ww own hS hBg fr kn => .inl ⟨trivial, fun K hK => wp_value (exec_catS (s := bytT P.sv P.sb ++ (bytT P.dv P.db)) (t := P.opts) rfl kn.1 kn.2.1 (cat_ok (sz_app hy1 hy2 (by decide : 16 + 16 = 32)) hop (by decide : 32 + 40 ≤ 9223372036854775807))) (hK _ _ ⟨Touch.refl _ _, rfl⟩)⟩),
          (fun QQ aa ww own hS hBg fr kn => .inl ⟨trivial, fun K hK => wp_value (exec_assign rfl kn.1) (hK _ _ ⟨Touch.refl _ _, rfl⟩)⟩),
          trivial⟩ ?_
      intro vs own u5 hB5 hsz kn inj
      have e5 : vs 5 = .string (bytT P.sv P.sb ++ (bytT P.dv P.db) ++ P.opts) := kn.1
      clear kn inj hsz
      simp only [putAll, Act.put, List.setIfInBounds_toArray, List.set_cons_zero, List.set_cons_succ, e5]
      clear e5
      have hBc := hBb.trans (hB5.mono hBb.size)
      have q5 := SAt.kept q4 hB5
      rw [← HBB.out]
      go_upto_region 8 with fail
      refine wp_region3 (Below u5.heap.size u5) u5.heap.size
          ([] : List (Nat × Cont))
          [kv (.string A), kv (.string A), kv (.string B), ks 3 #[.string A, .string ⟨#[0, 0]⟩, .string B] 9, kv (.int .i64 Z), kv (.string S), kv (.string (A ++ S)), kv (.string B), kv (.string (A ++ S ++ B)), kv (.pointer (some ⟨g1, 45, none⟩)), kv (.string P.pay), kv (.string (A ++ S ++ B ++ P.pay)), kv (.string (A ++ S ++ B ++ P.pay))]
          [.none, .none, .none, .none, .none, .none, .none, .none, .none, .none, .none, .none, .none]
          [some 59, some 60, some 61, some 62, some 63, some 64, some 65, some 66, some 67, some 68, some 69, some 70, some 2]
          [(4, .string A), (5, .string B), (1, .pointer (some ⟨g1, 0, none⟩))]
          [[], [], [], [.slot 1, .slot 2], [.slot 3, .cont 3 0], [.slot 4], [.slot 0, .slot 5], [], [.slot 6, .slot 7], [], [.slot 9], [.slot 8, .slot 10], [.slot 11]]
          [.slot 12] [59, 60, 61, 62, 63, 64, 65, 66, 67, 68, 69, 70, 2]
          rfl (by kernel_rfl) ⟨rfl, rfl, rfl, trivial⟩ ((Below.refl _ u5).drew) (Nat.le_refl _) trivial trivial (below_GcW (Nat.le_refl _))
          ⟨
          (fun QQ aa ww own hS hBg fr kn => .inl ⟨trivial, fun K hK => wp_value (exec_move rfl fr.1) (hK _ _ ⟨Touch.refl _ _, rfl⟩)⟩),
          (fun QQ aa ww own hS hBg fr kn => .inl ⟨trivial, fun K hK => wp_value (exec_move rfl fr.1) (hK _ _ ⟨Touch.refl _ _, rfl⟩)⟩),
          (fun QQ aa ww own hS hBg fr kn => .inl ⟨trivial, fun K hK => wp_value (exec_move rfl fr.2.1) (hK _ _ ⟨Touch.refl _ _, rfl⟩)⟩),
          (fun QQ aa ww own hS hBg fr kn => .inl ⟨trivial, fun K hK => act_bsT3 rfl kn.1 rfl kn.2.1 (fun w' hb hz hc => hK _ _ ⟨touch_below hb, _, hz, rfl, hc⟩)⟩),
          (fun QQ aa ww own hS hBg fr kn => .inl ⟨trivial, fun K hK => stepc en_rSum rfl (args1 kn.1.1) (HSM.out ww (own 3) kn.2.1) (fun w' hb => hK _ _ ⟨touch_below hb, rfl⟩)⟩),
          (fun QQ aa ww own hS hBg fr kn => .inl ⟨trivial, fun K hK => stepc en_rtwo rfl (args1 kn.1) (HST.out ww) (fun w' hb => hK _ _ ⟨touch_below hb, rfl⟩)⟩),
          (fun QQ aa ww own hS hBg fr kn => .inl ⟨trivial, fun K hK => wp_value (exec_catS (s := A) (t := S) rfl kn.1 kn.2.1 (cat_ok (Nat.le_of_eq za) (Nat.le_of_eq hS0) (by decide : 10 + 2 ≤ 9223372036854775807))) (hK _ _ ⟨Touch.refl _ _, rfl⟩)⟩),
          (fun QQ aa ww own hS hBg fr kn => .inl ⟨trivial, fun K hK => wp_value (exec_move rfl fr.2.1) (hK _ _ ⟨Touch.refl _ _, rfl⟩)⟩),
          (fun QQ aa ww own hS hBg fr kn => .inl ⟨trivial, fun K hK => wp_value (exec_catS (s := A ++ S) (t := B) rfl kn.1 kn.2.1 (cat_ok (sz_app (Nat.le_of_eq za) (Nat.le_of_eq hS0) (by decide : 10 + 2 = 12)) hzB (by decide : 12 + 48 ≤ 9223372036854775807))) (hK _ _ ⟨Touch.refl _ _, rfl⟩)⟩),
          (fun QQ aa ww own hS hBg fr kn => .inl ⟨trivial, fun K hK => wp_value (exec_fpk 13 (by decide) rfl fr.2.2.1) (hK _ _ ⟨Touch.refl _ _, rfl⟩)⟩),
          (fun QQ aa ww own hS hBg fr kn => .inl ⟨trivial, fun K hK => wp_value (exec_ld rfl kn.1 (ldPs (pk_pay (SAt.kept q5 hS)))) (hK _ _ ⟨Touch.refl _ _, rfl⟩)⟩),
          (fun QQ aa ww own hS hBg fr kn => .inl ⟨trivial, fun K hK => wp_value (exec_catS (s := A ++ S ++ B) (t := P.pay) rfl kn.1 kn.2.1 (cat_ok (sz_app (sz_app (Nat.le_of_eq za) (Nat.le_of_eq hS0) (by decide : 10 + 2 = 12)) hzB (by decide : 12 + 48 = 60)) hpy (by decide : 60 + 65575 ≤ 9223372036854775807))) (hK _ _ ⟨Touch.refl _ _, rfl⟩)⟩),
          (fun QQ aa ww own hS hBg fr kn => .inl ⟨trivial, fun K hK => wp_value (exec_assign rfl kn.1) (hK _ _ ⟨Touch.refl _ _, rfl⟩)⟩),
          trivial⟩ ?_
      intro vs own u6 hB6 hsz kn inj
      have e2 : vs 2 = .string (A ++ S ++ B ++ P.pay) := kn.1
      clear kn inj hsz
      simp only [putAll, Act.put, List.setIfInBounds_toArray, List.set_cons_zero, List.set_cons_succ, e2]
      clear e2
      go_wp2_with fail
      go_ret
      exact ⟨by rw [HFB.out]; rfl, hBc.trans (hB6.mono hBc.size)⟩
theorem exec_mulZ {a : Act} {o : Oper} {w : World} {x y : Operand} (ho : o.op = .binOp .mul 3 x y 3) {n : Int} {q : Nat} (hx : a.eval x = .int .i64 n) (hy : a.eval y = .int .i64 1048576) (h0 : 0 ≤ n) (h1 : n ≤ 255) (hq : n.toNat * 1048576 = q) : (execOp a.eval o).run Try.prog w = .ok (.value (.int .i64 (q : Int))) w := by
  obtain ⟨i, rfl⟩ := Int.eq_ofNat_of_zero_le h0
  exact exec_mulW (i := i) (m := 1048576) ho hx hy hq (by simp at hq; omega)
set_option maxHeartbeats 32000000 in
theorem rSix_run (P : Pk) (v : Value) (w : World) (h1 : ExAt w v P.exts) (hO : PkOk P) (hr : rgtP P = true) (hf : fitP P = true) (h6 : P.sv = true) : Calls Try.prog 25 #[.agg (SC 46 (pkV P v))] w fun e w' => e = .returned (.string (sixB P)) ∧ Below w.heap.size w w' := by
  obtain ⟨a1, c1, rfl, _⟩ := id h1
  obtain ⟨hv1, hv2, _, hpr, hho, hcl, hof, ho8, hrr⟩ := rgtP_iff.1 hr
  rw [if_pos h6] at hrr
  obtain ⟨hfl, _, _, hx, hp, hid, _⟩ := rgt6_iff.1 hrr
  obtain ⟨hE0, hlen, hop⟩ := rgt_few hr
  have hfi : headP P + P.pay.size ≤ 65575 := by
    unfold fitP at hf
    rw [if_pos h6] at hf
    simpa using hf
  have h40 : 40 ≤ headP P := by unfold headP; rw [if_pos h6]; omega
  have hpy : P.pay.size ≤ 65575 := by omega
  have hy1 := bytT_size P.sv P.sb
  have hy2 := bytT_size P.dv P.db
  have flz : Value.int .i64 P.flow = .int .i64 ((P.flow.toNat : Nat) : Int) := by rw [← zn hfl.1]
  have HZ := Hid.mk (fun q => exB_size (P := P) (exsOk_drop q hx))
  have HNK := Hid.mk (fun q => exsOk_kind hp (exsOk_drop q hx) hpr)
  have HX := Hid.mk hx
  have hd40 := hd6_size hr h6
  obtain ⟨WW, hWW⟩ : ∃ WW, hd6 P ++ exB P P.exts = WW := ⟨_, rfl⟩
  have hWz : WW.size ≤ 9000 := by
    have h0 := HZ.out 0
    rw [List.drop_zero] at h0
    rw [← hWW, ByteArray.size_append, hd40, h0]
    split <;> omega
  have HSB : Hid (sixB P = WW ++ P.pay) := Hid.mk (by rw [← hWW]; rfl)
  have HST : Hid (hd6 P ++ exB P (P.exts.drop 0) = WW) := Hid.mk (by rw [List.drop_zero]; exact hWW)
  obtain ⟨C4, hC4⟩ : ∃ C4, P.cls.toNat * 1048576 = C4 := ⟨_, rfl⟩
  obtain ⟨N4, hN4⟩ : ∃ N4, 1610612736 + C4 + P.flow.toNat = N4 := ⟨_, rfl⟩
  obtain ⟨M4, hM4⟩ : ∃ M4, headP P + P.pay.size = 40 + M4 := ⟨headP P + P.pay.size - 40, by omega⟩
  have HHD : Hid (hd6 P = putT N4 4 ++ putT M4 2 ++ putT (nextK P (P.exts.drop 0)).toNat 1 ++ putT P.hop.toNat 1 ++ bytT P.sv P.sb ++ bytT P.dv P.db) := Hid.mk (by
    unfold hd6
    rw [hC4, hN4, List.drop_zero, show headP P + P.pay.size - 40 = M4 by omega])
  have HC4 := Hid.mk hC4
  have HN4 := Hid.mk hN4
  have HM4 := Hid.mk hM4
  have hC4l : C4 ≤ 267386880 := by omega
  have hN4l : N4 < 4294967296 := by omega
  have hM4l : M4 ≤ 65535 := by omega
  have HP4 : Hid (∀ ww, Calls Try.prog 53 #[.int .u64 (N4 : Int), .int .i64 4] ww fun e w' => e = .returned (.string (putT N4 4)) ∧ Below ww.heap.size ww w') := Hid.mk (fun ww => rPut_run N4 4 ww (by omega) (by decide) (by decide))
  have HPI : Hid (∀ ww, Calls Try.prog 53 #[.int .u64 ((P.id.toNat : Nat) : Int), .int .i64 4] ww fun e w' => e = .returned (.string (putT P.id.toNat 4)) ∧ Below ww.heap.size ww w') := Hid.mk (fun ww => rPut_run P.id.toNat 4 ww (by omega) (by decide) (by decide))
  have HNX : Hid (∀ ww, ExAt ww (.slice a1 P.exts.length c1) P.exts → Calls Try.prog 55 #[.agg (SC 46 (pkV P (.slice a1 P.exts.length c1))), .int .i64 0] ww fun e w' => e = .returned (.string (putT (nextK P (P.exts.drop 0)).toNat 1)) ∧ Below ww.heap.size ww w') := Hid.mk (fun ww h => rNext_run P _ 0 ww h (by omega) (by omega) ⟨(HNK.out 0).1, (HNK.out 0).2.1⟩)
  have HNY : Hid (∀ i, i ≤ P.exts.length → ∀ ww, ExAt ww (.slice a1 P.exts.length c1) P.exts → Calls Try.prog 55 #[.agg (SC 46 (pkV P (.slice a1 P.exts.length c1))), .int .i64 (i : Int)] ww fun e w' => e = .returned (.string (putT (nextK P (P.exts.drop i)).toNat 1)) ∧ Below ww.heap.size ww w') := Hid.mk (fun i hi ww h => rNext_run P _ i ww h (by omega) hi ⟨(HNK.out i).1, (HNK.out i).2.1⟩)
  have HH := Hid.mk (fun ww h => rHead_run P (.slice a1 P.exts.length c1) ww h (by omega) (by omega))
  have hS0 : (putT (nextK P (P.exts.drop 0)).toNat 1).size = 1 := putT_size _ _
  have hTz0 : (hd6 P).size ≤ 9100 := by omega
  generalize sixB P = SB at *
  generalize hd6 P = HD at *
  generalize putT (nextK P (P.exts.drop 0)).toNat 1 = S0 at *
  generalize headP P = H at *
  obtain ⟨n, hnn⟩ : ∃ n, P.exts.length = n := ⟨_, rfl⟩
  have HN := Hid.mk hnn
  rw [hnn] at h1 hlen HNX HNY HH ⊢
  clear hnn hx hWW hd40 hC4 hN4 hM4
  go_enter Try.func25, Try.ntmps25
  go_wp2_with (refine wl_boxO rfl rfl isPk (by rfl) ?_; intro g1 u2 hg1 q1 hB2; refine Hid.out ?_)
  refine Hid.mk ?_
  have hx1 := h1.kept hB2
  have q2 := q1
  have hx2 := hx1
  go_upto_region 1 with fail
  refine wp_region3 (Below u2.heap.size u2) u2.heap.size
      ([] : List (Nat × Cont))
      (kv (.pointer (some ⟨g1, 36, none⟩)) :: kv (.int .i64 P.cls) :: kv (.int .i64 ((C4 : Nat) : Int)) :: kv (.int .i64 ((1610612736 + C4 : Nat) : Int)) :: kv (.pointer (some ⟨g1, 42, none⟩)) :: kv (.int .i64 P.flow) :: kv (.int .i64 ((N4 : Nat) : Int)) :: kv (.int .u64 ((N4 : Nat) : Int)) :: kv (.string (putT N4 4)) :: kv (.agg (SC 46 (pkV P (.slice a1 n c1)))) :: kv (.int .i64 (H : Int)) :: kv (.pointer (some ⟨g1, 45, none⟩)) :: kv (.string P.pay) :: kv (.int .i64 (P.pay.size : Int)) :: kv (.int .i64 ((H + P.pay.size : Nat) : Int)) :: kv (.int .i64 ((M4 : Nat) : Int)) :: kv (.string (putT M4 2)) :: kv (.string (putT N4 4 ++ (putT M4 2))) :: kv (.agg (SC 46 (pkV P (.slice a1 n c1)))) :: kv (.string S0) :: kv (.string (putT N4 4 ++ (putT M4 2) ++ S0)) :: kv (.pointer (some ⟨g1, 35, none⟩)) :: kv (.int .i64 P.hop) :: kv (.string (putT P.hop.toNat 1)) :: kv (.string (putT N4 4 ++ (putT M4 2) ++ S0 ++ (putT P.hop.toNat 1))) :: kv (.pointer (some ⟨g1, 0, none⟩)) :: kv (.agg (SC 17 (adV P.sv P.sb))) :: kv (.string (bytT P.sv P.sb)) :: kv (.string (putT N4 4 ++ (putT M4 2) ++ S0 ++ (putT P.hop.toNat 1) ++ (bytT P.sv P.sb))) :: kv (.pointer (some ⟨g1, 17, none⟩)) :: kv (.agg (SC 17 (adV P.dv P.db))) :: kv (.string (bytT P.dv P.db)) :: kv (.string (putT N4 4 ++ (putT M4 2) ++ S0 ++ (putT P.hop.toNat 1) ++ (bytT P.sv P.sb) ++ (bytT P.dv P.db))) :: kv (.string (putT N4 4 ++ (putT M4 2) ++ S0 ++ (putT P.hop.toNat 1) ++ (bytT P.sv P.sb) ++ (bytT P.dv P.db))) :: [])
      (.none :: .none :: .none :: .none :: .none :: .none :: .none :: .none :: .none :: .none :: .none :: .none :: .none :: .none :: .none :: .none :: .none :: .none :: .none :: .none :: .none :: .none :: .none :: .none :: .none :: .none :: .none :: .none :: .none :: .none :: .none :: .none :: .none :: .none :: [])
      (some 6 :: some 7 :: some 8 :: some 9 :: some 10 :: some 11 :: some 12 :: some 13 :: some 14 :: some 15 :: some 16 :: some 17 :: some 18 :: some 19 :: some 20 :: some 21 :: some 22 :: some 23 :: some 24 :: some 25 :: some 26 :: some 27 :: some 28 :: some 29 :: some 30 :: some 31 :: some 32 :: some 33 :: some 34 :: some 35 :: some 36 :: some 37 :: some 38 :: some 3 :: [])
      [(1, .pointer (some ⟨g1, 0, none⟩))]
      ([] :: [.slot 0] :: [.slot 1] :: [.slot 2] :: [] :: [.slot 4] :: [.slot 3, .slot 5] :: [.slot 6] :: [.slot 7] :: [] :: [.slot 9] :: [] :: [.slot 11] :: [.slot 12] :: [.slot 10, .slot 13] :: [.slot 14] :: [.slot 15] :: [.slot 8, .slot 16] :: [] :: [.slot 18] :: [.slot 17, .slot 19] :: [] :: [.slot 21] :: [.slot 22] :: [.slot 20, .slot 23] :: [] :: [.slot 25] :: [.slot 26] :: [.slot 24, .slot 27] :: [] :: [.slot 29] :: [.slot 30] :: [.slot 28, .slot 31] :: [.slot 32] :: [])
      [.slot 33] (6 :: 7 :: 8 :: 9 :: 10 :: 11 :: 12 :: 13 :: 14 :: 15 :: 16 :: 17 :: 18 :: 19 :: 20 :: 21 :: 22 :: 23 :: 24 :: 25 :: 26 :: 27 :: 28 :: 29 :: 30 :: 31 :: 32 :: 33 :: 34 :: 35 :: 36 :: 37 :: 38 :: 3 :: [])
      rfl (by kernel_rfl) ⟨rfl, trivial⟩ ((Below.refl _ u2).drew) (Nat.le_refl _) trivial trivial (below_GcW (Nat.le_refl _))
      ⟨
      (fun QQ aa ww own hS hBg fr kn => .inl ⟨trivial, fun K hK => wp_value (exec_fpk 4 (by decide) rfl fr.1) (hK _ _ ⟨Touch.refl _ _, rfl⟩)⟩),
      (fun QQ aa ww own hS hBg fr kn => .inl ⟨trivial, fun K hK => wp_value (exec_ld rfl kn.1 (ldP (pk_cls (SAt.kept q2 hS)))) (hK _ _ ⟨Touch.refl _ _, rfl⟩)⟩),
      (fun QQ aa ww own hS hBg fr kn => .inl ⟨trivial, fun K hK => wp_value (exec_mulZ rfl kn.1 rfl hcl.1 hcl.2 HC4.out) (hK _ _ ⟨Touch.refl _ _, rfl⟩)⟩),
      (fun QQ aa ww own hS hBg fr kn => .inl ⟨trivial, fun K hK => wp_value (exec_addW (i := 1610612736) (m := C4) rfl rfl kn.1 rfl (by omega)) (hK _ _ ⟨Touch.refl _ _, rfl⟩)⟩),
      (fun QQ aa ww own hS hBg fr kn => .inl ⟨trivial, fun K hK => wp_value (exec_fpk 10 (by decide) rfl fr.1) (hK _ _ ⟨Touch.refl _ _, rfl⟩)⟩),
      (fun QQ aa ww own hS hBg fr kn => .inl ⟨trivial, fun K hK => wp_value (exec_ld rfl kn.1 (ldP (pk_flow (SAt.kept q2 hS)))) (hK _ _ ⟨Touch.refl _ _, rfl⟩)⟩),
      (fun QQ aa ww own hS hBg fr kn => .inl ⟨trivial, fun K hK => wp_value (exec_addW (i := 1610612736 + C4) (m := P.flow.toNat) rfl kn.1 (kn.2.1.trans flz) HN4.out (by omega)) (hK _ _ ⟨Touch.refl _ _, rfl⟩)⟩),
      (fun QQ aa ww own hS hBg fr kn => .inl ⟨trivial, fun K hK => wp_value (exec_cvIUn (m := N4) rfl kn.1 (by omega)) (hK _ _ ⟨Touch.refl _ _, rfl⟩)⟩),
      (fun QQ aa ww own hS hBg fr kn => .inl ⟨trivial, fun K hK => stepc en_rPut rfl (args2 kn.1 rfl) (HP4.out ww) (fun w' hb => hK _ _ ⟨touch_below hb, rfl⟩)⟩),
      (fun QQ aa ww own hS hBg fr kn => .inl ⟨trivial, fun K hK => wp_value (look_st rfl isPk (SAt.kept q2 hS) fr.1) (hK _ _ ⟨Touch.refl _ _, rfl⟩)⟩),
      (fun QQ aa ww own hS hBg fr kn => .inl ⟨trivial, fun K hK => stepc en_rHead rfl (args1 kn.1) (HH.out ww (hx2.kept hS)) (fun w' hb => hK _ _ ⟨touch_below hb, rfl⟩)⟩),
      (fun QQ aa ww own hS hBg fr kn => .inl ⟨trivial, fun K hK => wp_value (exec_fpk 13 (by decide) rfl fr.1) (hK _ _ ⟨Touch.refl _ _, rfl⟩)⟩),
      (fun QQ aa ww own hS hBg fr kn => .inl ⟨trivial, fun K hK => wp_value (exec_ld rfl kn.1 (ldPs (pk_pay (SAt.kept q2 hS)))) (hK _ _ ⟨Touch.refl _ _, rfl⟩)⟩),
      (fun QQ aa ww own hS hBg fr kn => .inl ⟨trivial, fun K hK => wp_value (exec_lenS rfl kn.1) (hK _ _ ⟨Touch.refl _ _, rfl⟩)⟩),
      (fun QQ aa ww own hS hBg fr kn => .inl ⟨trivial, fun K hK => wp_value (exec_addW (i := H) (m := P.pay.size) rfl kn.1 kn.2.1 rfl (by omega)) (hK _ _ ⟨Touch.refl _ _, rfl⟩)⟩),
      (fun QQ aa ww own hS hBg fr kn => .inl ⟨trivial, fun K hK => wp_value (exec_subW (i := H + P.pay.size) (m := 40) (q := M4) rfl kn.1 rfl HM4.out (by omega)) (hK _ _ ⟨Touch.refl _ _, rfl⟩)⟩),
      (fun QQ aa ww own hS hBg fr kn => .inl ⟨trivial, fun K hK => stepc en_rtwo rfl (args1 kn.1) (rtwoN M4 ww (by omega)) (fun w' hb => hK _ _ ⟨touch_below hb, rfl⟩)⟩),
      (fun QQ aa ww own hS hBg fr kn => .inl ⟨trivial, fun K hK => wp_value (exec_catS (s := putT N4 4) (t := putT M4 2) rfl kn.1 kn.2.1 (cat_ok (Nat.le_of_eq (putT_size _ _)) (Nat.le_of_eq (putT_size _ _)) (by decide : 4 + 2 ≤ 9223372036854775807))) (hK _ _ ⟨Touch.refl _ _, rfl⟩)⟩),
      (fun QQ aa ww own hS hBg fr kn => .inl ⟨trivial, fun K hK => wp_value (look_st rfl isPk (SAt.kept q2 hS) fr.1) (hK _ _ ⟨Touch.refl _ _, rfl⟩)⟩),
      (fun QQ aa ww own hS hBg fr kn => .inl ⟨trivial, fun K hK => stepc en_rNext rfl (args2 kn.1 rfl) (HNX.out ww (hx2.kept hS)) (fun w' hb => hK _ _ ⟨touch_below hb, rfl⟩)⟩),
      (fun QQ aa ww own hS hBg fr kn => .inl ⟨trivial, fun K hK => wp_value (exec_catS (s := putT N4 4 ++ (putT M4 2)) (t := S0) rfl kn.1 kn.2.1 (cat_ok (sz_app (Nat.le_of_eq (putT_size _ _)) (Nat.le_of_eq (putT_size _ _)) (by decide : 4 + 2 = 6)) (Nat.le_of_eq hS0) (by decide : 6 + 1 ≤ 9223372036854775807))) (hK _ _ ⟨Touch.refl _ _, rfl⟩)⟩),
      (fun QQ aa ww own hS hBg fr kn => .inl ⟨trivial, fun K hK => wp_value (exec_fpk 3 (by decide) rfl fr.1) (hK _ _ ⟨Touch.refl _ _, rfl⟩)⟩),
      (fun QQ aa ww own hS hBg fr kn => .inl ⟨trivial, fun K hK => wp_value (exec_ld rfl kn.1 (ldP (pk_hop (SAt.kept q2 hS)))) (hK _ _ ⟨Touch.refl _ _, rfl⟩)⟩),
      (fun QQ aa ww own hS hBg fr kn => .inl ⟨trivial, fun K hK => stepc en_rone rfl (args1 kn.1) (rone_run P.hop ww (by omega) (by omega)) (fun w' hb => hK _ _ ⟨touch_below hb, rfl⟩)⟩),
      (fun QQ aa ww own hS hBg fr kn => .inl ⟨trivial, fun K hK => wp_value (exec_catS (s := putT N4 4 ++ (putT M4 2) ++ S0) (t := putT P.hop.toNat 1) rfl kn.1 kn.2.1 (cat_ok (sz_app (sz_app (Nat.le_of_eq (putT_size _ _)) (Nat.le_of_eq (putT_size _ _)) (by decide : 4 + 2 = 6)) (Nat.le_of_eq hS0) (by decide : 6 + 1 = 7)) (Nat.le_of_eq (putT_size _ _)) (by decide : 7 + 1 ≤ 9223372036854775807))) (hK _ _ ⟨Touch.refl _ _, rfl⟩)⟩),
      (fun QQ aa ww own hS hBg fr kn => .inl ⟨trivial, fun K hK => wp_value (exec_fpk 0 (by decide) rfl fr.1) (hK _ _ ⟨Touch.refl _ _, rfl⟩)⟩),
      (fun QQ aa ww own hS hBg fr kn => .inl ⟨trivial, fun K hK => wp_value (exec_ld rfl kn.1 (ld_src (SAt.kept q2 hS))) (hK _ _ ⟨Touch.refl _ _, rfl⟩)⟩),
      (fun QQ aa ww own hS hBg fr kn => .inl ⟨trivial, fun K hK => stepc en_rBytes rfl (args1 kn.1) (rBytes_run P.sv P.sb ww hO.sb) (fun w' hb => hK _ _ ⟨touch_below hb, rfl⟩)⟩),
      (fun QQ aa ww own hS hBg fr kn => .inl ⟨trivial, fun K hK => wp_value (exec_catS (s := putT N4 4 ++ (putT M4 2) ++ S0 ++ (putT P.hop.toNat 1)) (t := bytT P.sv P.sb) rfl kn.1 kn.2.1 (cat_ok (sz_app (sz_app (sz_app (Nat.le_of_eq (putT_size _ _)) (Nat.le_of_eq (putT_size _ _)) (by decide : 4 + 2 = 6)) (Nat.le_of_eq hS0) (by decide : 6 + 1 = 7)) (Nat.le_of_eq (putT_size _ _)) (by decide : 7 + 1 = 8)) hy1 (by decide : 8 + 16 ≤ 9223372036854775807))) (hK _ _ ⟨Touch.refl _ _, rfl⟩)⟩),
      (fun QQ aa ww own hS hBg fr kn => .inl ⟨trivial, fun K hK => wp_value (exec_fpk 1 (by decide) rfl fr.1) (hK _ _ ⟨Touch.refl _ _, rfl⟩)⟩),
      (fun QQ aa ww own hS hBg fr kn => .inl ⟨trivial, fun K hK => wp_value (exec_ld rfl kn.1 (ld_dst (SAt.kept q2 hS))) (hK _ _ ⟨Touch.refl _ _, rfl⟩)⟩),
      (fun QQ aa ww own hS hBg fr kn => .inl ⟨trivial, fun K hK => stepc en_rBytes rfl (args1 kn.1) (rBytes_run P.dv P.db ww hO.db) (fun w' hb => hK _ _ ⟨touch_below hb, rfl⟩)⟩),
      (fun QQ aa ww own hS hBg fr kn => .inl ⟨trivial, fun K hK => wp_value (exec_catS (s := putT N4 4 ++ (putT M4 2) ++ S0 ++ (putT P.hop.toNat 1) ++ (bytT P.sv P.sb)) (t := bytT P.dv P.db) rfl kn.1 kn.2.1 (cat_ok (sz_app (sz_app (sz_app (sz_app (Nat.le_of_eq (putT_size _ _)) (Nat.le_of_eq (putT_size _ _)) (by decide : 4 + 2 = 6)) (Nat.le_of_eq hS0) (by decide : 6 + 1 = 7)) (Nat.le_of_eq (putT_size _ _)) (by decide : 7 + 1 = 8)) hy1 (by decide : 8 + 16 = 24)) hy2 (by decide : 24 + 16 ≤ 9223372036854775807))) (hK _ _ ⟨Touch.refl _ _, rfl⟩)⟩),
      (fun QQ aa ww own hS hBg fr kn => .inl ⟨trivial, fun K hK => wp_value (exec_assign rfl kn.1) (hK _ _ ⟨Touch.refl _ _, rfl⟩)⟩),
      trivial⟩ ?_
  intro vs own u3 hB3 hsz kn inj
  have e3 : vs 3 = .string (putT N4 4 ++ (putT M4 2) ++ S0 ++ (putT P.hop.toNat 1) ++ (bytT P.sv P.sb) ++ (bytT P.dv P.db)) := kn.1
  clear kn inj hsz
  simp only [putAll, Act.put, List.setIfInBounds_toArray, List.set_cons_zero, List.set_cons_succ, e3]
  clear e3
  rw [← HHD.out]
  have hBa := hB2.trans (hB3.mono hB2.size)
  have q3 := SAt.kept q1 hB3
  have hx3 := hx1.kept hB3
  clear q1 q2 hx1 hx2 hB2 hB3
  go_wp2_with fail
  go_loopg [3, 4] n (fun gm s3 s4 z => ∃ (i : Nat) (T : ByteArray), Hid (gm + i = n) ∧ s4 = .int .i64 (i : Int) ∧ s3 = .string T ∧ T.size ≤ 9100 ∧ Hid (T ++ exB P (P.exts.drop i) = WW) ∧ Below u3.heap.size u3 z)
  case atStart => exact ⟨0, HD, Hid.mk rfl, rfl, rfl, hTz0, HST, Below.refl _ _⟩
  case round =>
    obtain ⟨i, T, HI, rfl, rfl, hTz, HT, hBz⟩ := hrel
    have q4 := SAt.kept q3 hBz
    have t11 := pk_exts q4
    have hBg := hBa.trans (hBz.mono hBa.size)
    by_cases hil : i < n
    · have hili : (i : Int) < (n : Int) := by omega
      obtain ⟨x, hx⟩ := list_at (l := P.exts) (i := i) (by rw [HN.out]; exact hil)
      have HSt := Hid.mk (exB_step (P := P) hx).1
      have hxi := exsOk_drop i HX.out
      have hxo : exOk x (0 + i) = true := by
        have h1' := List.getElem?_eq_some_iff.1 hx
        rw [List.drop_eq_getElem_cons h1'.1, h1'.2] at hxi
        unfold exsOk at hxi
        exact (Bool.and_eq_true _ _ ▸ hxi).1
      obtain ⟨_, _, hz6, hz2⟩ := exOk_iff.1 hxo
      have hz6' : 6 ≤ x.body.size := by omega
      obtain ⟨p1, rfl, k1, k1b⟩ := hx3.sl hBz hx
      have H1 := Hid.mk hil
      have L1 := Hid.mk (World.block_lt_of_cell? _ _ k1b)
      have hx3 := hx3.kept hBz
      have HN1 := Hid.mk (fun ww h => HNY.out (i + 1) (by omega) ww h)
      obtain ⟨k1, hk1⟩ : ∃ k1, nextK P (P.exts.drop (i + 1)) = k1 := ⟨_, rfl⟩
      rw [hk1] at HN1 HSt
      clear hk1 hxi hxo
      go_upto_region 5 with (first | (refine wl_value rfl (exec_fpk 11 (by decide) rfl (by rfl)) ?_) | (refine wl_value rfl (exec_ld rfl (by rfl) (ldPx t11)) ?_))
      refine wp_region_cut 25 rfl (by kernel_rfl) (any_steps (Below wr.heap.size wr) (fun v v' => Below v.heap.size v v') (fun j vv _ => vv = ([.string T, .agg (SC 46 (pkV P (.slice (some p1) n c1))), .int .i64 (i : Int), .int .i64 ((i + 1 : Nat) : Int), .string (putT k1.toNat 1), .string (T ++ (putT k1.toNat 1)), .pointer (some ⟨g1, 43, none⟩), .slice (some p1) n c1, .int .i64 (i : Int), .pointer (some (p1.add (2 * i))), .pointer (some ((p1.add (2 * i)).add 1)), .string x.body, .int .i64 (x.body.size : Int), .int .i64 ((2 + x.body.size : Nat) : Int), .int .i64 (((2 + x.body.size) / 8 : Nat) : Int), .int .i64 (((2 + x.body.size) / 8 - 1 : Nat) : Int), .string (putT ((2 + x.body.size) / 8 - 1) 1), .string (T ++ (putT k1.toNat 1) ++ (putT ((2 + x.body.size) / 8 - 1) 1)), .pointer (some ⟨g1, 43, none⟩), .slice (some p1) n c1, .int .i64 (i : Int), .pointer (some (p1.add (2 * i))), .pointer (some ((p1.add (2 * i)).add 1)), .string x.body, .string (T ++ (putT k1.toNat 1) ++ (putT ((2 + x.body.size) / 8 - 1) 1) ++ x.body)] : List Value).getD j undef)
          [46, 47, 48, 49, 50, 51, 52, 53, 54, 55, 56, 57, 58, 59, 60, 61, 62, 63, 64, 65, 66, 67, 68, 69, 70]
          [(3, .string T), (1, .pointer (some ⟨g1, 0, none⟩)), (4, .int .i64 (i : Int))]
          [[], [], [], [2], [1, 3], [0, 4], [], [6], [], [7, 8], [9], [10], [11], [12], [13], [14], [15], [5, 16], [], [18], [], [19, 20], [21], [22], [17, 23]]
          (by kernel_rfl) ⟨rfl, rfl, rfl, trivial⟩ (Below.drew (Below.refl _ _)) (fun v v' h hb => h.trans (hb.mono h.size)) (fun _ _ _ _ h _ => h)
          ⟨
          (fun QQ aa ww hS fr kn => ⟨trivial, fun K hK => wp_value (exec_move rfl fr.1) (hK _ _ rfl (Below.refl _ _))⟩),
          (fun QQ aa ww hS fr kn => ⟨trivial, fun K hK => wp_value (look_st rfl isPk (SAt.kept q4 hS) fr.2.1) (hK _ _ rfl (Below.refl _ _))⟩),
          (fun QQ aa ww hS fr kn => ⟨trivial, fun K hK => wp_value (exec_move rfl fr.2.2.1) (hK _ _ rfl (Below.refl _ _))⟩),
          (fun QQ aa ww hS fr kn => ⟨trivial, fun K hK => wp_value (exec_addW (i := i) (m := 1) rfl kn.1 rfl rfl (by omega)) (hK _ _ rfl (Below.refl _ _))⟩),
          (fun QQ aa ww hS fr kn => ⟨trivial, fun K hK => stepc en_rNext rfl (args2 kn.1 kn.2.1) (HN1.out ww (hx3.kept hS)) (fun w' hb => hK _ _ rfl hb)⟩),
          (fun QQ aa ww hS fr kn => ⟨trivial, fun K hK => wp_value (exec_catS (s := T) (t := putT k1.toNat 1) rfl kn.1 kn.2.1 (cat_ok hTz (Nat.le_of_eq (putT_size _ _)) (by decide : 9100 + 1 ≤ 9223372036854775807))) (hK _ _ rfl (Below.refl _ _))⟩),
          (fun QQ aa ww hS fr kn => ⟨trivial, fun K hK => wp_value (exec_fpk 11 (by decide) rfl fr.2.1) (hK _ _ rfl (Below.refl _ _))⟩),
          (fun QQ aa ww hS fr kn => ⟨trivial, fun K hK => wp_value (exec_ld rfl kn.1 (ldPx (pk_exts (SAt.kept q4 hS)))) (hK _ _ rfl (Below.refl _ _))⟩),
          (fun QQ aa ww hS fr kn => ⟨trivial, fun K hK => wp_value (exec_move rfl fr.2.2.1) (hK _ _ rfl (Below.refl _ _))⟩),
          (fun QQ aa ww hS fr kn => ⟨trivial, fun K hK => wp_value (exec_ixE (i := i) rfl kn.1 kn.2.1 H1.out) (hK _ _ rfl (Below.refl _ _))⟩),
          (fun QQ aa ww hS fr kn => ⟨trivial, fun K hK => wp_value (exec_fex 1 (by decide) rfl kn.1) (hK _ _ rfl (Below.refl _ _))⟩),
          (fun QQ aa ww hS fr kn => ⟨trivial, fun K hK => wp_value (exec_ld rfl kn.1 (ldPs ((hS.cell L1.out).trans k1b))) (hK _ _ rfl (Below.refl _ _))⟩),
          (fun QQ aa ww hS fr kn => ⟨trivial, fun K hK => wp_value (exec_lenS rfl kn.1) (hK _ _ rfl (Below.refl _ _))⟩),
          (fun QQ aa ww hS fr kn => ⟨trivial, fun K hK => wp_value (exec_addW (i := 2) (m := x.body.size) rfl rfl kn.1 rfl (by omega)) (hK _ _ rfl (Below.refl _ _))⟩),
          (fun QQ aa ww hS fr kn => ⟨trivial, fun K hK => wp_value (exec_quoW (i := 2 + x.body.size) (m := 8) rfl kn.1 rfl rfl (by decide) (by omega)) (hK _ _ rfl (Below.refl _ _))⟩),
          (fun QQ aa ww hS fr kn => ⟨trivial, fun K hK => wp_value (exec_subW (i := (2 + x.body.size) / 8) (m := 1) rfl kn.1 rfl (by omega) (by omega)) (hK _ _ rfl (Below.refl _ _))⟩),
          (fun QQ aa ww hS fr kn => ⟨trivial, fun K hK => stepc en_rone rfl (args1 kn.1) (roneN ((2 + x.body.size) / 8 - 1) ww (by omega)) (fun w' hb => hK _ _ rfl hb)⟩),
          (fun QQ aa ww hS fr kn => ⟨trivial, fun K hK => wp_value (exec_catS (s := T ++ (putT k1.toNat 1)) (t := putT ((2 + x.body.size) / 8 - 1) 1) rfl kn.1 kn.2.1 (cat_ok (sz_app hTz (Nat.le_of_eq (putT_size _ _)) (by decide : 9100 + 1 = 9101)) (Nat.le_of_eq (putT_size _ _)) (by decide : 9101 + 1 ≤ 9223372036854775807))) (hK _ _ rfl (Below.refl _ _))⟩),
          (fun QQ aa ww hS fr kn => ⟨trivial, fun K hK => wp_value (exec_fpk 11 (by decide) rfl fr.2.1) (hK _ _ rfl (Below.refl _ _))⟩),
          (fun QQ aa ww hS fr kn => ⟨trivial, fun K hK => wp_value (exec_ld rfl kn.1 (ldPx (pk_exts (SAt.kept q4 hS)))) (hK _ _ rfl (Below.refl _ _))⟩),
          (fun QQ aa ww hS fr kn => ⟨trivial, fun K hK => wp_value (exec_move rfl fr.2.2.1) (hK _ _ rfl (Below.refl _ _))⟩),
          (fun QQ aa ww hS fr kn => ⟨trivial, fun K hK => wp_value (exec_ixE (i := i) rfl kn.1 kn.2.1 H1.out) (hK _ _ rfl (Below.refl _ _))⟩),
          (fun QQ aa ww hS fr kn => ⟨trivial, fun K hK => wp_value (exec_fex 1 (by decide) rfl kn.1) (hK _ _ rfl (Below.refl _ _))⟩),
          (fun QQ aa ww hS fr kn => ⟨trivial, fun K hK => wp_value (exec_ld rfl kn.1 (ldPs ((hS.cell L1.out).trans k1b))) (hK _ _ rfl (Below.refl _ _))⟩),
          (fun QQ aa ww hS fr kn => ⟨trivial, fun K hK => wp_value (exec_catS (s := T ++ (putT k1.toNat 1) ++ (putT ((2 + x.body.size) / 8 - 1) 1)) (t := x.body) rfl kn.1 kn.2.1 (cat_ok (sz_app (sz_app hTz (Nat.le_of_eq (putT_size _ _)) (by decide : 9100 + 1 = 9101)) (Nat.le_of_eq (putT_size _ _)) (by decide : 9101 + 1 = 9102)) hz2 (by decide : 9102 + 2046 ≤ 9223372036854775807))) (hK _ _ rfl (Below.refl _ _))⟩),
          trivial⟩ ?_)
      intro vs z2 hB5 kn
      have e70 : vs 70 = .string (T ++ (putT k1.toNat 1) ++ (putT ((2 + x.body.size) / 8 - 1) 1) ++ x.body) := kn 24 (by decide)
      clear kn
      show wpList Try.prog _ _ (_ :: []) _ _
      simp only [putAll, Act.put, List.setIfInBounds_toArray, List.set_cons_zero, List.set_cons_succ, e70]
      clear e70
      have HT2 : Hid (T ++ putT k1.toNat 1 ++ putT ((2 + x.body.size) / 8 - 1) 1 ++ x.body ++ exB P (P.exts.drop (i + 1)) = WW) := Hid.mk (by
        rw [← HT.out, HSt.out]
        simp only [app_assoc])
      have hTz2 : (T ++ putT k1.toNat 1 ++ putT ((2 + x.body.size) / 8 - 1) 1 ++ x.body).size ≤ 9100 := by
        have := congrArg ByteArray.size HT2.out
        rw [ByteArray.size_append (b := exB P (P.exts.drop (i + 1)))] at this
        omega
      have hBy := hBz.trans (hB5.mono hBz.size)
      go_wp2_with fail
      go_roundg (n - (i + 1))
      case rel => exact ⟨i + 1, _, Hid.mk (by omega), by go_num, rfl, hTz2, HT2, hBy⟩
      case measure => have := HI.out; omega
    · have hi2 : i = n := by have := HI.out; omega
      subst hi2
      have hT := HT.out
      rw [← HN.out, List.drop_length] at hT
      have HTE := Hid.mk hT
      have s12 := pk_cut q4
      have s45 := pk_pay q4
      clear HT hT HNY HNX HP4 HH HHD
      cases hcut : P.cut
      · rw [hcut] at s12
        have e2 : exB P [] = ByteArray.empty := by unfold exB; rw [hcut]; rfl
        have hTW : T = WW := by have := HTE.out; rw [e2, app_empty] at this; exact this
        have HTW := Hid.mk hTW
        clear hTW e2 HTE
        have HCC : Hid (T.size + P.pay.size ≤ 9223372036854775807) := Hid.mk (by omega)
        go_wp2_with (first | (refine wl_value rfl (exec_fpk 11 (by decide) rfl (by rfl)) ?_) | (refine wl_value rfl (exec_fpk 12 (by decide) rfl (by rfl)) ?_) | (refine wl_value rfl (exec_fpk 13 (by decide) rfl (by rfl)) ?_) | (refine wl_value rfl (exec_ld rfl (by rfl) (ldPx t11)) ?_) | (refine wl_value rfl (exec_ld rfl (by rfl) (ldPb s12)) ?_) | (refine wl_value rfl (exec_ld rfl (by rfl) (ldPs s45)) ?_) | (refine wl_value rfl (exec_catS rfl (by rfl) (by rfl) HCC.out) ?_))
        go_ret
        exact ⟨by rw [HSB.out, ← HTW.out]; rfl, hBg⟩
      · rw [hcut] at s12
        have e2 : exB P [] = cuB P := by unfold exB; rw [hcut]; rfl
        have hTW : T ++ cuB P = WW := by have := HTE.out; rw [e2] at this; exact this
        have HTW := Hid.mk hTW
        clear hTW e2 HTE
        have s6 := pk_off q4
        have s7 := pk_more q4
        have hm1 := bN_lt P.more 1
        have HM : Hid (bN P.more 1 = if P.more = true then 1 else 0) := Hid.mk rfl
        obtain ⟨O, hO'⟩ : ∃ O : Nat, P.off = (O : Int) := ⟨P.off.toNat, by omega⟩
        have HOF := Hid.mk hO'
        rw [hO'] at s6
        have hOl : O ≤ 65528 := by omega
        have hOt : P.off.toNat = O := by omega
        clear hO'
        obtain ⟨M5, hM5⟩ : ∃ M5, O + bN P.more 1 = M5 := ⟨_, rfl⟩
        have HM5 := Hid.mk hM5
        have hM5l : M5 ≤ 65529 := by omega
        have HCU : Hid (cuB P = putT P.proto.toNat 1 ++ putT 0 1 ++ putT M5 2 ++ putT P.id.toNat 4) := Hid.mk (by unfold cuB; rw [hOt, hM5])
        clear hM5 hOt
        go_upto_if 76 with (first | (refine wl_value rfl (exec_fpk 11 (by decide) rfl (by rfl)) ?_) | (refine wl_value rfl (exec_fpk 12 (by decide) rfl (by rfl)) ?_) | (refine wl_value rfl (exec_fpk 6 (by decide) rfl (by rfl)) ?_) | (refine wl_value rfl (exec_fpk 7 (by decide) rfl (by rfl)) ?_) | (refine wl_value rfl (exec_ld rfl (by rfl) (ldPx t11)) ?_) | (refine wl_value rfl (exec_ld rfl (by rfl) (ldPb s12)) ?_) | (refine wl_value rfl (exec_ld rfl (by rfl) (ldP s6)) ?_) | (refine wl_value rfl (exec_ld rfl (by rfl) (ldPb s7)) ?_))
        simp only [Act.put, List.setIfInBounds_toArray, List.set_cons_zero, List.set_cons_succ]
        go_cut [5, 76, 77, 78] from 76 to 78 (fun s5 s76 s77 s78 z => s5 = .int .i64 ((M5 : Nat) : Int) ∧ SAt z g1 27 46 (pkV P (.slice a1 i c1)) ∧ Below w.heap.size w z)
        case first =>
          cases hmo : P.more
          · rw [hmo] at s7
            have e1 : bN P.more 1 = 0 := by rw [HM.out, hmo]; rfl
            have e5 : M5 = O := by have := HM5.out; omega
            go_wp2_with fail
            go_meet
            case rel => exact ⟨by rw [e5], q4, hBg⟩
          · rw [hmo] at s7
            have e1 : bN P.more 1 = 1 := by rw [HM.out, hmo]; rfl
            have e5 : O + 1 = M5 := by have := HM5.out; omega
            have HE5 := Hid.mk e5
            clear e5 e1
            go_wp2_with (refine wl_value rfl (exec_addW (i := O) (m := 1) (q := M5) rfl (by rfl) (by rfl) HE5.out (by omega)) ?_)
            go_meet
            case rel => exact ⟨rfl, q4, hBg⟩
        case rest =>
          obtain ⟨rfl, q5, hBh⟩ := hcut
          clear q4 hBg hBz
          go_upto_region 10 with fail
          refine wp_region_cut 15 rfl (by kernel_rfl) (any_steps (Below wc.heap.size wc) (fun v v' => Below v.heap.size v v') (fun j vv _ => vv = ([.string T, .pointer (some ⟨g1, 34, none⟩), .int .i64 P.proto, .string (putT P.proto.toNat 1), .string (T ++ (putT P.proto.toNat 1)), .string (putT 0 1), .string (T ++ (putT P.proto.toNat 1) ++ (putT 0 1)), .int .i64 ((M5 : Nat) : Int), .string (putT M5 2), .string (T ++ (putT P.proto.toNat 1) ++ (putT 0 1) ++ (putT M5 2)), .pointer (some ⟨g1, 37, none⟩), .int .i64 P.id, .int .u64 ((P.id.toNat : Nat) : Int), .string (putT P.id.toNat 4), .string (T ++ (putT P.proto.toNat 1) ++ (putT 0 1) ++ (putT M5 2) ++ (putT P.id.toNat 4))] : List Value).getD j undef)
              [79, 80, 81, 82, 83, 84, 85, 86, 87, 88, 89, 90, 91, 92, 93]
              [(3, .string T), (1, .pointer (some ⟨g1, 0, none⟩)), (5, .int .i64 ((M5 : Nat) : Int))]
              [[], [], [1], [2], [0, 3], [], [4, 5], [], [7], [6, 8], [], [10], [11], [12], [9, 13]]
              (by kernel_rfl) ⟨rfl, rfl, rfl, trivial⟩ (Below.drew (Below.refl _ _)) (fun v v' h hb => h.trans (hb.mono h.size)) (fun _ _ _ _ h _ => h)
              ⟨
              (fun QQ aa ww hS fr kn => ⟨trivial, fun K hK => wp_value (exec_move rfl fr.1) (hK _ _ rfl (Below.refl _ _))⟩),
              (fun QQ aa ww hS fr kn => ⟨trivial, fun K hK => wp_value (exec_fpk 2 (by decide) rfl fr.2.1) (hK _ _ rfl (Below.refl _ _))⟩),
              (fun QQ aa ww hS fr kn => ⟨trivial, fun K hK => wp_value (exec_ld rfl kn.1 (ldP (pk_proto (SAt.kept q5 hS)))) (hK _ _ rfl (Below.refl _ _))⟩),
              (fun QQ aa ww hS fr kn => ⟨trivial, fun K hK => stepc en_rone rfl (args1 kn.1) (rone_run P.proto ww (by omega) (by omega)) (fun w' hb => hK _ _ rfl hb)⟩),
              (fun QQ aa ww hS fr kn => ⟨trivial, fun K hK => wp_value (exec_catS (s := T) (t := putT P.proto.toNat 1) rfl kn.1 kn.2.1 (cat_ok hTz (Nat.le_of_eq (putT_size _ _)) (by decide : 9100 + 1 ≤ 9223372036854775807))) (hK _ _ rfl (Below.refl _ _))⟩),
              (fun QQ aa ww hS fr kn => ⟨trivial, fun K hK => stepc en_rone rfl (args1 rfl) (rone_run 0 ww (by decide) (by decide)) (fun w' hb => hK _ _ rfl hb)⟩),
              (fun QQ aa ww hS fr kn => ⟨trivial, fun K hK => wp_value (exec_catS (s := T ++ (putT P.proto.toNat 1)) (t := putT 0 1) rfl kn.1 kn.2.1 (cat_ok (sz_app hTz (Nat.le_of_eq (putT_size _ _)) (by decide : 9100 + 1 = 9101)) (Nat.le_of_eq (putT_size _ _)) (by decide : 9101 + 1 ≤ 9223372036854775807))) (hK _ _ rfl (Below.refl _ _))⟩),
              (fun QQ aa ww hS fr kn => ⟨trivial, fun K hK => wp_value (exec_move rfl fr.2.2.1) (hK _ _ rfl (Below.refl _ _))⟩),
              (fun QQ aa ww hS fr kn => ⟨trivial, fun K hK => stepc en_rtwo rfl (args1 kn.1) (rtwoN M5 ww (by omega)) (fun w' hb => hK _ _ rfl hb)⟩),
              (fun QQ aa ww hS fr kn => ⟨trivial, fun K hK => wp_value (exec_catS (s := T ++ (putT P.proto.toNat 1) ++ (putT 0 1)) (t := putT M5 2) rfl kn.1 kn.2.1 (cat_ok (sz_app (sz_app hTz (Nat.le_of_eq (putT_size _ _)) (by decide : 9100 + 1 = 9101)) (Nat.le_of_eq (putT_size _ _)) (by decide : 9101 + 1 = 9102)) (Nat.le_of_eq (putT_size _ _)) (by decide : 9102 + 2 ≤ 9223372036854775807))) (hK _ _ rfl (Below.refl _ _))⟩),
              (fun QQ aa ww hS fr kn => ⟨trivial, fun K hK => wp_value (exec_fpk 5 (by decide) rfl fr.2.1) (hK _ _ rfl (Below.refl _ _))⟩),
              (fun QQ aa ww hS fr kn => ⟨trivial, fun K hK => wp_value (exec_ld rfl kn.1 (ldP (pk_id (SAt.kept q5 hS)))) (hK _ _ rfl (Below.refl _ _))⟩),
              (fun QQ aa ww hS fr kn => ⟨trivial, fun K hK => wp_value (exec_cvIU64 rfl kn.1 hid.1 (by omega)) (hK _ _ rfl (Below.refl _ _))⟩),
              (fun QQ aa ww hS fr kn => ⟨trivial, fun K hK => stepc en_rPut rfl (args2 kn.1 rfl) (HPI.out ww) (fun w' hb => hK _ _ rfl hb)⟩),
              (fun QQ aa ww hS fr kn => ⟨trivial, fun K hK => wp_value (exec_catS (s := T ++ (putT P.proto.toNat 1) ++ (putT 0 1) ++ (putT M5 2)) (t := putT P.id.toNat 4) rfl kn.1 kn.2.1 (cat_ok (sz_app (sz_app (sz_app hTz (Nat.le_of_eq (putT_size _ _)) (by decide : 9100 + 1 = 9101)) (Nat.le_of_eq (putT_size _ _)) (by decide : 9101 + 1 = 9102)) (Nat.le_of_eq (putT_size _ _)) (by decide : 9102 + 2 = 9104)) (Nat.le_of_eq (putT_size _ _)) (by decide : 9104 + 4 ≤ 9223372036854775807))) (hK _ _ rfl (Below.refl _ _))⟩),
              trivial⟩ ?_)
          intro vs z2 hB6 kn
          have e93 : vs 93 = .string (T ++ (putT P.proto.toNat 1) ++ (putT 0 1) ++ (putT M5 2) ++ (putT P.id.toNat 4)) := kn 14 (by decide)
          clear kn
          show wpList Try.prog _ _ (_ :: []) _ _
          simp only [putAll, Act.put, List.setIfInBounds_toArray, List.set_cons_zero, List.set_cons_succ, e93]
          clear e93
          have q6 := SAt.kept q5 hB6
          have s46 := pk_pay q6
          have HF : Hid (T ++ putT P.proto.toNat 1 ++ putT 0 1 ++ putT M5 2 ++ putT P.id.toNat 4 = WW) := Hid.mk (by rw [← HTW.out, HCU.out]; simp only [app_assoc])
          rw [HF.out]
          have HCC : Hid (WW.size + P.pay.size ≤ 9223372036854775807) := Hid.mk (by omega)
          go_wp2_with (first | (refine wl_value rfl (exec_fpk 13 (by decide) rfl (by rfl)) ?_) | (refine wl_value rfl (exec_ld rfl (by rfl) (ldPs s46)) ?_) | (refine wl_value rfl (exec_catS rfl (by rfl) (by rfl) HCC.out) ?_))
          go_ret
          exact ⟨by rw [HSB.out]; rfl, hBh.trans (hB6.mono hBh.size)⟩
set_option maxHeartbeats 16000000 in
theorem rBuild_run (P : Pk) (v : Value) (w : World) (h1 : ExAt w v P.exts) (hO : PkOk P) (hn : P.exts.length < 4611686018427387904) (hb : ∀ x ∈ P.exts, x.body.size ≤ 140737488355328) (hp : P.pay.size ≤ 140737488355328) : Calls Try.prog 11 #[.agg (SC 46 (pkV P v))] w fun e w' => e = .returned (.tuple #[.string (bldT P), .int .i64 (bldE P)]) ∧ Below w.heap.size w w' := by
  have HT : Hid (bldT P = if (rgtP P && fitP P) = true then (if P.sv = true then sixB P else fourB P) else ByteArray.empty) := Hid.mk rfl
  have HE : Hid (bldE P = if rgtP P = true then (if fitP P = true then 0 else 75) else 1) := Hid.mk rfl
  have HRI := Hid.mk (fun ww h => rRight_run P v ww h hn hb)
  have HFI : Hid (rgtP P = true → ∀ ww, ExAt ww v P.exts → Calls Try.prog 24 #[.agg (SC 46 (pkV P v))] ww fun e w' => e = .returned (.bool (fitP P)) ∧ Below ww.heap.size ww w') := Hid.mk (fun hr ww h => rFits_run P v ww h (by have := rgt_few hr; omega) (by have := rgt_few hr; omega) hp)
  have H6 : Hid (rgtP P = true → fitP P = true → P.sv = true → ∀ ww, ExAt ww v P.exts → Calls Try.prog 25 #[.agg (SC 46 (pkV P v))] ww fun e w' => e = .returned (.string (sixB P)) ∧ Below ww.heap.size ww w') := Hid.mk (fun hr hf h6 ww h => rSix_run P v ww h hO hr hf h6)
  have H4 : Hid (rgtP P = true → fitP P = true → P.sv = false → ∀ ww, ExAt ww v P.exts → Calls Try.prog 26 #[.agg (SC 46 (pkV P v))] ww fun e w' => e = .returned (.string (fourB P)) ∧ Below ww.heap.size ww w') := Hid.mk (fun hr hf h4 ww h => rFour_run P v ww h hO hr hf h4)
  generalize bldT P = T at *
  generalize bldE P = E at *
  generalize sixB P = S6 at *
  generalize fourB P = S4 at *
  generalize rgtP P = r at *
  generalize fitP P = f at *
  clear hn hb hp hO
  go_enter Try.func11, Try.ntmps11
  go_wp2_with (refine wl_boxO rfl rfl isPk (by rfl) ?_; intro g1 u2 hg1 q1 hB2; refine Hid.out ?_)
  refine Hid.mk ?_
  have hx1 := h1.kept hB2
  go_wp2_with (first | (refine wl_value rfl (look_st rfl isPk q1 (by rfl)) ?_) | (go_at_call 14; refine (HRI.out _ hx1).mono ?_; rintro e u3 ⟨rfl, hB3⟩; refine Hid.out ?_))
  refine Hid.mk ?_
  have hBa := hB2.trans (hB3.mono hB2.size)
  have q2 := SAt.kept q1 hB3
  have hx2 := hx1.kept hB3
  cases r
  · obtain rfl : T = ByteArray.empty := HT.out
    obtain rfl : E = 1 := HE.out
    go_wp2_with fail
    exact bodyPost_ret (results_two rfl (by rfl) (by rfl)) rfl ⟨rfl, hBa⟩
  · go_wp2_with (first | (refine wl_value rfl (look_st rfl isPk q2 (by rfl)) ?_) | (go_at_call 24; refine (HFI.out rfl _ hx2).mono ?_; rintro e u4 ⟨rfl, hB4⟩; refine Hid.out ?_))
    refine Hid.mk ?_
    have hBb := hBa.trans (hB4.mono hBa.size)
    have q3 := SAt.kept q2 hB4
    have hx3 := hx2.kept hB4
    cases f
    · obtain rfl : T = ByteArray.empty := HT.out
      obtain rfl : E = 75 := HE.out
      go_wp2_with fail
      exact bodyPost_ret (results_two rfl (by rfl) (by rfl)) rfl ⟨rfl, hBb⟩
    · obtain rfl : E = 0 := HE.out
      have s0 := pk_sv q3
      have HK6 : P.sv = true → ∀ ww, ExAt ww v P.exts → Calls Try.prog 25 #[.agg (SC 46 (pkV P v))] ww fun e w' => e = .returned (.string S6) ∧ Below ww.heap.size ww w' := by have := H6.out; simpa using this
      have HK4 : P.sv = false → ∀ ww, ExAt ww v P.exts → Calls Try.prog 26 #[.agg (SC 46 (pkV P v))] ww fun e w' => e = .returned (.string S4) ∧ Below ww.heap.size ww w' := by have := H4.out; simpa using this
      clear H6 H4
      rcases Bool.eq_false_or_eq_true P.sv with hsv | hsv
      · obtain rfl : T = S6 := by rw [HT.out, hsv]; rfl
        rw [hsv] at s0
        have h6c := Hid.mk (fun ww h => HK6 hsv ww h)
        go_wp2_with (first | (refine wl_value rfl (exec_fpk 0 (by decide) rfl (by rfl)) ?_) | (refine wl_value rfl (exec_fad0 rfl (by rfl)) ?_) | (refine wl_value rfl (exec_ld rfl (by rfl) (ldPb s0)) ?_) | (refine wl_value rfl (look_st rfl isPk q3 (by rfl)) ?_) | (go_at_call 25; refine (h6c.out _ hx3).mono ?_; rintro e u5 ⟨rfl, hB5⟩; refine Hid.out ?_))
        refine Hid.mk ?_
        go_wp2_with fail
        exact bodyPost_ret (results_two rfl (by rfl) (by rfl)) rfl ⟨rfl, hBb.trans (hB5.mono hBb.size)⟩
      · obtain rfl : T = S4 := by rw [HT.out, hsv]; rfl
        rw [hsv] at s0
        have h4c := Hid.mk (fun ww h => HK4 hsv ww h)
        go_wp2_with (first | (refine wl_value rfl (exec_fpk 0 (by decide) rfl (by rfl)) ?_) | (refine wl_value rfl (exec_fad0 rfl (by rfl)) ?_) | (refine wl_value rfl (exec_ld rfl (by rfl) (ldPb s0)) ?_) | (refine wl_value rfl (look_st rfl isPk q3 (by rfl)) ?_) | (go_at_call 26; refine (h4c.out _ hx3).mono ?_; rintro e u5 ⟨rfl, hB5⟩; refine Hid.out ?_))
        refine Hid.mk ?_
        go_wp2_with fail
        exact bodyPost_ret (results_two rfl (by rfl) (by rfl)) rfl ⟨rfl, hBb.trans (hB5.mono hBb.size)⟩
theorem en_rBuild (args : Array Value) (w : World) : (callFunc 11 args).run Try.prog w = .ok (.enter 11 args) w := by kernel_rfl
end Go.Proofs.Ytdlepeogmjmleaa
/-
  Own text. A region that leaves its order open, where what is known of slots and world hangs on which operations are behind. No program is named here.
-/
namespace Go.Proofs.Ytdlepeogmjmleaa
open Go
section
variable {P : Program} {ops : Array Oper} {Q : Exit → Act → World → Prop}
structure MidW (ops : Array Oper) (a0 : Act) (S : (Nat → Bool) → World → Prop) (φ : (Nat → Bool) → Nat → Value → World → Prop) (listed : Array Bool) (a : Act) (w : World) : Prop where
  lsize : listed.size = ops.size
  closed : ∀ (j : Nat) (oj : Oper), ops[j]? = some oj → listed.getD j false = true → ∀ e ∈ oj.after, Region.binds .any e = true → listed.getD e.on false = true
  size : a.tmps.size = a0.tmps.size
  defers : a.defers = a0.defers
  world : S (fun j => listed.getD j false) w
  frame : ∀ t : Nat, (∀ (i : Nat) (o : Oper), ops[i]? = some o → listed.getD i false = true → o.dst ≠ some t) → a.tmps[t]? = a0.tmps[t]?
  known : ∀ (i : Nat) (o : Oper) (d : Nat), ops[i]? = some o → o.dst = some d → listed.getD i false = true → φ (fun j => listed.getD j false) i (a.tmps.getD d undef) w
theorem any_invW {a0 : Act} {w0 : World} (S : (Nat → Bool) → World → Prop) (φ : (Nat → Bool) → Nat → Value → World → Prop) (hB : invB ops = true)
    (hS0 : S (fun _ => false) w0.drew)
    (step : ∀ (i : Nat) (o : Oper), ops[i]? = some o → ∀ (L : Nat → Bool) (a : Act) (w : World), S L w → L i = false →
      (∀ (j : Nat) (oj : Oper), ops[j]? = some oj → L j = true → ∀ k, predOf oj k = true → L k = true) → (∀ k, predOf o k = true → L k = true) →
      (∀ t : Nat, (∀ (j : Nat) (oj : Oper), ops[j]? = some oj → oj.dst ≠ some t) → a.tmps[t]? = a0.tmps[t]?) →
      (∀ (j : Nat) (oj : Oper) (d : Nat), ops[j]? = some oj → oj.dst = some d → L j = true → φ L j (a.tmps.getD d undef) w) →
      wpOp P ops Q i (fun a' w' => ∃ v, a' = a.put o.dst v ∧ S (fun j => if j = i then true else L j) w' ∧ φ (fun j => if j = i then true else L j) i v w' ∧ ∀ j v, j ≠ i → L j = true → φ L j v w → φ (fun j => if j = i then true else L j) j v w') a w)
    (fin : ∀ (vs : Nat → Value) (L : Nat → Bool) (w : World), (∀ j, j < ops.size → L j = true) → S L w → (∀ (i : Nat) (o : Oper) (d : Nat), ops[i]? = some o → o.dst = some d → φ L i (vs d) w) → Q .normal (putAll a0 vs (dsts ops)) w)
    (hsz : ∀ d ∈ dsts ops, d < a0.tmps.size) : wpAny P .any ops Q ops.size (Array.replicate ops.size false) a0 { w0 with drawn := w0.drawn + 1 } := by
  simp only [invB, Bool.and_eq_true, decide_eq_true_eq] at hB
  obtain ⟨⟨hsome, hnd⟩, hord⟩ := hB
  have hset : ∀ (listed : Array Bool) (i : Nat), i < listed.size → (fun j => (listed.setIfInBounds i true).getD j false) = fun j => if j = i then true else listed.getD j false := fun listed i hi => by
    funext j
    by_cases h : j = i
    · subst h
      simp [hi]
    · rw [if_neg h, getD_set_ne false (Ne.symm h)]
  refine (wpAny_inv (MidW ops a0 S φ) ?_ ?_ ops.size _ a0 _ ?_ ?_)
  · intro listed a w i mid hi
    obtain ⟨hun, oi, hoi, hall⟩ := mem_ready.1 hi
    have hils : i < listed.size := by
      rcases Nat.lt_or_ge i listed.size with h | h
      · exact h
      · simp [Array.getElem?_eq_none h] at hun
    have hunf : listed.getD i false = false := by simp [hils] at hun ⊢; exact hun
    have hpr : ∀ (o : Oper) (k : Nat), predOf o k = true → ∃ e ∈ o.after, Region.binds .any e = true ∧ e.on = k := fun o k h => predOf_spec h
    have hst := step i oi hoi (fun j => listed.getD j false) a w mid.world hunf
      (fun j oj hj hl k hk => by
        obtain ⟨e, he, hb, hon⟩ := hpr oj k hk
        have := mid.closed j oj hj hl e he hb
        rwa [hon] at this)
      (fun k hk => by
        obtain ⟨e, he, hb, hon⟩ := hpr oi k hk
        have := hall e he hb
        rwa [hon] at this)
      (fun t ht => mid.frame t (fun j oj hj _ => ht j oj hj))
      (fun j oj d hj hd hl => mid.known j oj d hj hd hl)
    refine wpOp_mono (fun a' w' h' => ?_) hst
    obtain ⟨v, rfl, hS', hv, hk⟩ := h'
    have hsi : oi.dst.isSome = true := List.all_eq_true.1 hsome oi (by simpa using Array.mem_of_getElem? hoi)
    obtain ⟨di, hdi⟩ := Option.isSome_iff_exists.1 hsi
    have hmem : di ∈ dsts ops := List.mem_filterMap.2 ⟨oi, by simpa using Array.mem_of_getElem? hoi, hdi⟩
    have hdlt : di < a.tmps.size := by rw [mid.size]; exact hsz di hmem
    have hself : (listed.setIfInBounds i true).getD i false = true := by simp [hils]
    rw [hdi]
    refine ⟨by simp [mid.lsize], fun j oj hj hl e he hb => ?_, by simpa [Act.put] using mid.size, mid.defers, by rw [hset listed i hils]; exact hS', fun t ht => ?_, fun j oj d hj hd hl => ?_⟩
    · rcases getD_set_false hl with rfl | hl
      · obtain rfl : oj = oi := Option.some.inj (hj.symm.trans hoi)
        have h1 := hall e he hb
        by_cases hie : j = e.on
        · rw [hie]; rw [hie] at hself; exact hself
        · rw [getD_set_ne false hie]; exact h1
      · have h1 := mid.closed j oj hj hl e he hb
        by_cases hie : i = e.on
        · rw [← hie]; exact hself
        · rw [getD_set_ne false hie]; exact h1
    · have hne : di ≠ t := fun h => ht i oi hoi hself (by rw [hdi, h])
      rw [show (a.put (some di) v).tmps[t]? = a.tmps[t]? from by simp [Act.put, hne]]
      exact mid.frame t (fun j oj hj hl => ht j oj hj (by
        by_cases hij : i = j
        · subst hij; exact hself
        · rw [getD_set_ne false hij]; exact hl))
    · rw [hset listed i hils]
      rcases getD_set_false hl with rfl | hl2
      · obtain rfl : oj = oi := Option.some.inj (hj.symm.trans hoi)
        obtain rfl : d = di := Option.some.inj (hd.symm.trans hdi)
        rw [show (a.put (some d) v).tmps.getD d undef = v from by simp [Act.put, hdlt]]
        exact hv
      · have hji : j ≠ i := fun h => by
          subst h
          rw [hunf] at hl2
          cases hl2
        have hne : di ≠ d := fun h => by
          subst h
          exact hji (nodup_dst hnd hoi hj hdi hd).symm
        rw [show (a.put (some di) v).tmps.getD d undef = a.tmps.getD d undef from by simp [Act.put, hne]]
        exact hk j _ hji hl2 (mid.known j oj d hj hd hl2)
  · intro listed a w mid hr
    have hall : ∀ n i, i < n → i < ops.size → listed.getD i false = true := by
      intro n
      induction n with
      | zero => intro i h; cases h
      | succ n ih =>
        intro i hin hil
        by_cases hlt : i < n
        · exact ih i hlt hil
        · have hin' : i = n := by omega
          subst hin'
          cases hg : listed.getD i false with
          | true => rfl
          | false =>
            have ho : ops[i]? = some ops[i] := Array.getElem?_eq_getElem hil
            have h1 := List.all_eq_true.1 hord i (List.mem_range.2 hil)
            simp only [ho] at h1
            have hin2 : i ∈ Region.ready .any ops listed := mem_ready.2 ⟨by
              have : i < listed.size := by rw [mid.lsize]; exact hil
              simp [this] at hg ⊢; exact hg, _, ho, fun e he hb => by
              have h2 := Array.all_eq_true'.1 h1 e he
              simp only [hb, Bool.not_true, Bool.false_or, decide_eq_true_eq] at h2
              exact ih e.on h2 (by omega)⟩
            rw [hr] at hin2
            cases hin2
    have hq := fin (fun d => a.tmps.getD d undef) (fun j => listed.getD j false) w (fun j hj => hall (j + 1) j (by omega) hj) mid.world (fun i o d ho hd => mid.known i o d ho hd (hall (i + 1) i (by omega) (Array.getElem?_eq_some_iff.1 ho).1))
    have ha : putAll a0 (fun d => a.tmps.getD d undef) (dsts ops) = a := by
      have h1 := putAll_defers (fun d => a.tmps.getD d undef) (dsts ops) a0
      have h2 : (putAll a0 (fun d => a.tmps.getD d undef) (dsts ops)).tmps = a.tmps := by
        apply Array.ext_getElem?
        intro t
        by_cases ht : t < a0.tmps.size
        · rw [putAll_get _ _ _ _ ht]
          by_cases hm2 : t ∈ dsts ops
          · rw [if_pos hm2]
            have : t < a.tmps.size := by rw [mid.size]; exact ht
            simp [this]
          · rw [if_neg hm2]
            exact (mid.frame t (fun i o hi _ hd => hm2 (List.mem_filterMap.2 ⟨o, by simpa using Array.mem_of_getElem? hi, hd⟩))).symm
        · rw [Array.getElem?_eq_none (by rw [putAll_size]; omega), Array.getElem?_eq_none (by rw [mid.size]; omega)]
      rw [← mid.defers] at h1
      generalize putAll a0 (fun d => a.tmps.getD d undef) (dsts ops) = b at h1 h2
      cases a; cases b
      simp only at h1 h2
      rw [h1, h2]
    rw [ha] at hq
    exact hq
  · unfold leftOf
    exact Nat.le_trans (List.length_filter_le _ _) (by simp)
  · exact ⟨by simp, fun j oj _ hl => (by rw [getD_replicate_f] at hl; cases hl), rfl, rfl, by rw [show (fun j => (Array.replicate ops.size false).getD j false) = fun _ => false from funext (fun j => getD_replicate_f _ _)]; exact hS0, fun _ _ => rfl, fun i o d _ _ hl => (by rw [getD_replicate_f] at hl; cases hl)⟩
end
end Go.Proofs.Ytdlepeogmjmleaa
/-
  Own text. How the program reads bytes: numbers, addresses, and a reader that goes over them.
-/
namespace Go.Proofs.Ytdlepeogmjmleaa
open Go.RowKit Go.Proofs
set_option maxRecDepth 100000
/-- A call that is given up by an error. -/
def gup (x : Int) : Ending := .panicked [{ v := .iface 31 (.int .i64 x), recovered := false }]
theorem need_ok (x : Int) (w : World) : Calls Try.prog 63 #[.bool true, .int .i64 x] w fun e w' => e = .returned (.tuple #[]) ∧ w' = w := by
  go_enter Try.func63, Try.ntmps63
  go_wp2_with fail
  exact bodyPost_end (results_none rfl _ _ _) rfl ⟨rfl, rfl⟩
theorem need_no (x : Int) (w : World) : Calls Try.prog 63 #[.bool false, .int .i64 x] w fun e w' => e = gup x ∧ w' = w := by
  go_enter Try.func63, Try.ntmps63
  go_wp2_with fail
  exact ⟨rfl, rfl, rfl⟩
theorem need_no' {b : Bool} (x : Int) (w : World) (h : b = false) : Calls Try.prog 63 #[.bool b, .int .i64 x] w fun e w' => e = gup x ∧ w' = w := by
  rw [h]
  exact need_no x w
theorem need_ok' {b : Bool} (x : Int) (w : World) (h : b = true) : Calls Try.prog 63 #[.bool b, .int .i64 x] w fun e w' => e = .returned (.tuple #[]) ∧ w' = w := by
  rw [h]
  exact need_ok x w
theorem cutLH (s : ByteArray) (n m : Nat) (w : World) (h1 : n ≤ m) (h : m ≤ s.size) : (Instr.sliceAt 9 (.string s) (some (.int .i64 (n : Int))) (some (.int .i64 (m : Int))) none).run Try.prog w = .ok (.string (s.extract n m)) w := by
  have i1 : (n : Int) ≤ (m : Int) := by omega
  have i2 : (m : Int) ≤ (s.size : Int) := by omega
  simp [go_sem, i1, i2]
theorem number_run (b : ByteArray) (at0 size : Nat) (w : World) (hT : b.size < 9223372036854775808) (h1 : 1 ≤ size) (h7 : size ≤ 7) (ha : at0 + size ≤ b.size) : Calls Try.prog 72 #[.string b, .int .i64 (at0 : Int), .int .i64 (size : Int)] w fun e w' => e = .returned (.int .i64 (getN (txt b) at0 size : Int)) ∧ w' = w := by
  have HG : Hid (∀ ww, Calls Try.prog 78 #[.string b, .int .i64 (at0 : Int), .int .i64 (size : Int)] ww fun e w' => e = .returned (.tuple #[.int .u64 (getN (txt b) at0 size : Int), .bool true]) ∧ w' = ww) := Hid.mk (fun ww => Get_run b at0 size ww hT h1 (by omega) ha)
  have hl : getN (txt b) at0 size < 9223372036854775808 := by
    have e1 := getN_lt (fun j => txt_b b j) at0 size
    have e2 : 256 ^ size ≤ 256 ^ 7 := Nat.pow_le_pow_right (by decide) h7
    have e3 : (256 : Nat) ^ 7 = 72057594037927936 := by decide
    omega
  generalize getN (txt b) at0 size = N at *
  clear hT h1 h7 ha
  go_enter Try.func72, Try.ntmps72
  go_wp2_with (first | (go_at_call 78; refine (HG.out _).mono ?_; rintro e u3 ⟨rfl, rfl⟩) | (refine wl_value rfl (exec_cvUI (m := N) rfl (by rfl) hl) ?_))
  go_ret
  exact ⟨rfl, rfl⟩
theorem en_number (args : Array Value) (w : World) : (callFunc 72 args).run Try.prog w = .ok (.enter 72 args) w := by kernel_rfl
theorem en_address (args : Array Value) (w : World) : (callFunc 74 args).run Try.prog w = .ok (.enter 74 args) w := by kernel_rfl
theorem en_need (args : Array Value) (w : World) : (callFunc 63 args).run Try.prog w = .ok (.enter 63 args) w := by kernel_rfl
theorem address_run (T : ByteArray) (w : World) (h : T.size = 4 ∨ T.size = 16) : Calls Try.prog 74 #[.string T] w fun e w' => e = .returned (.agg (SC 17 (adV (decide (T.size = 16)) (frB T)))) ∧ Below w.heap.size w w' := by
  have HF := Hid.mk (fun ww => From_run T ww h)
  generalize decide (T.size = 16) = d at *
  generalize frB T = f at *
  clear h
  go_enter Try.func74, Try.ntmps74
  go_wp2_with (refine wl_alO rfl rfl zeroAddr ?_; intro g1 u2 hg1 q1 hB2; refine Hid.out ?_)
  refine Hid.mk ?_
  go_wp2_with (first | (go_at_call 79; refine (HF.out _).mono ?_; rintro e u3 ⟨rfl, hB3⟩; refine Hid.out ?_))
  refine Hid.mk ?_
  go_wp2_with (refine wl_alO rfl rfl zeroAddr ?_; intro g2 u4 hg2 q2 hB4; refine Hid.out ?_)
  refine Hid.mk ?_
  have hBa := hB2.trans (hB3.mono hB2.size)
  have hBb := hBa.trans (hB4.mono hBa.size)
  have l1 := heap_lt q1
  have q1b := SAt.kept (SAt.kept q1 hB3) hB4
  go_wp2_with (first | (refine st_stO rfl rfl isAddr (adV_one _ _) q2 (by rfl) (by rfl) ?_; intro u5 q5 o5; refine Hid.out ?_))
  refine Hid.mk ?_
  have l3 := hB3.size
  have q1c := (o5.block g1 (by omega)).trans q1b
  go_wp2_with (first | (refine wl_value rfl (look_st rfl isAddr q5 (by rfl)) ?_) | (refine st_stO rfl rfl isAddr (adV_one _ _) q1c (by rfl) (by rfl) ?_; intro u6 q6 o6; refine Hid.out ?_))
  refine Hid.mk ?_
  have l2 := hBa.size
  go_wp2_with fail
  exact bodyPost_ret (res_st rfl isAddr q6 (by rfl)) rfl ⟨rfl, (hBb.trans (o5.below (by omega))).trans (o6.below hg1)⟩
/-- The reader in memory, with what is left. -/
def RdAt (w : World) (g : Nat) (s : ByteArray) : Prop := w.heap[g]? = some (.cells #[.string s] 78 (0, 0))
theorem RdAt.cell {w : World} {g : Nat} {s : ByteArray} (h : RdAt w g s) : w.cell? ⟨g, 0, none⟩ = some (.string s) := (one_cell h).1
theorem RdAt.kept {w w' : World} {g B : Nat} {s : ByteArray} (h : RdAt w g s) (hb : Below B w w') (hg : g < B) : RdAt w' g s := bheap hb h hg
theorem exec_frd {a : Act} {o : Oper} {w : World} {x : Operand} (ho : o.op = .fieldAddr 78 x 0) {g : Nat} (hx : a.eval x = .pointer (some ⟨g, 0, none⟩)) : (execOp a.eval o).run Try.prog w = .ok (.value (.pointer (some ⟨g, 0, none⟩))) w := by
  have h : (Instr.fieldAt 78 (.pointer (some ⟨g, 0, none⟩)) 0).run Try.prog w = .ok (.pointer (some ⟨g, 0, none⟩)) w := by simp [go_sem]
  unfold execOp
  simp only [ho, hx, Sem.run_bind, h, Result.andThen_ok, Sem.run_pure]
theorem wl_stR {ops : Array Oper} {rest : List Oper} {o : Oper} {a : Act} {w : World} {x y : Operand} {Q : Exit → Act → World → Prop} (ho : o.op = .store 9 x y) (hw : Region.wanted o (yielded ops a.tmps) = true) {g : Nat} {s0 s : ByteArray} (hx : a.eval x = .pointer (some ⟨g, 0, none⟩)) (hy : a.eval y = .string s) (hg : RdAt w g s0)
    (h : ∀ w', RdAt w' g s → Only g w w' → wpList Try.prog ops Q rest (a.put o.dst undef) w') : wpList Try.prog ops Q (o :: rest) a w := by
  refine wl_act hw ?_
  have hr : (Instr.storeAt 9 (.pointer (some ⟨g, 0, none⟩)) (.string s)).run Try.prog w = .ok () (w.setCell ⟨g, 0, none⟩ (.string s)) := by simp [go_sem, (one_cell hg).1, (one_cell hg).2]
  unfold Oper.wp execOp
  simp only [ho, hx, hy, Sem.run_bind, hr, Result.andThen_ok, Sem.run_pure, Oper.upon]
  exact h _ (one_set hg) only_set
theorem take_no (g : Nat) (s : ByteArray) (n : Nat) (x : Int) (w : World) (hg : RdAt w g s) (h : s.size < n) : Calls Try.prog 73 #[.pointer (some ⟨g, 0, none⟩), .int .i64 (n : Int), .int .i64 x] w fun e w' => e = gup x ∧ w' = w := by
  have hc := ldPs hg.cell
  have hd : ¬ (n ≤ s.size) := by omega
  go_enter Try.func73, Try.ntmps73
  go_wp2_with (first | (refine wl_value rfl (exec_frd rfl (by rfl)) ?_) | (refine wl_value rfl (exec_ld rfl (by rfl) hc) ?_))
  refine (need_no x _).mono ?_
  rintro e v ⟨rfl, rfl⟩
  exact ⟨rfl, rfl, rfl⟩
theorem take_ok (g : Nat) (s : ByteArray) (n : Nat) (x : Int) (w : World) (hg : RdAt w g s) (h : n ≤ s.size) : Calls Try.prog 73 #[.pointer (some ⟨g, 0, none⟩), .int .i64 (n : Int), .int .i64 x] w fun e w' => e = .returned (.string (s.extract 0 n)) ∧ RdAt w' g (s.extract n s.size) ∧ Only g w w' := by
  have hc := ldPs hg.cell
  have hd : (n : Int) ≤ (s.size : Int) := by omega
  have h1 := strH s n w h
  have h2 := strL s n w h
  go_enter Try.func73, Try.ntmps73
  go_wp2_with (first | (refine wl_value rfl (exec_frd rfl (by rfl)) ?_) | (refine wl_value rfl (exec_ld rfl (by rfl) hc) ?_))
  refine (need_ok x _).mono ?_
  rintro e v ⟨rfl, rfl⟩
  go_wp2_with (first | (refine wl_value rfl (exec_frd rfl (by rfl)) ?_) | (refine wl_value rfl (exec_ld rfl (by rfl) hc) ?_) | (refine wl_value rfl (exec_slH rfl (by rfl) (by rfl) h1) ?_) | (refine wl_value rfl (exec_slL rfl (by rfl) (by rfl) h2) ?_) | (refine wl_stR rfl rfl (by rfl) (by rfl) hg ?_; intro u2 q2 o2; refine Hid.out ?_))
  refine Hid.mk ?_
  go_wp2_with fail
  go_ret
  exact ⟨rfl, q2, o2⟩
theorem en_take (args : Array Value) (w : World) : (callFunc 73 args).run Try.prog w = .ok (.enter 73 args) w := by kernel_rfl
end Go.Proofs.Ytdlepeogmjmleaa
