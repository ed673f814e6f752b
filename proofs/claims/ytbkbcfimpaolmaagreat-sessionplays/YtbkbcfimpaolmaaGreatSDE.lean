/-
  Own text. SessionPlays: does.
-/
import Derived.Test.YtbkbcfimpaolmaaGreatSDC
import Derived.Test.YtbkbcfimpaolmaaGreatInv4
import Derived.Deep.CutBlock
namespace Go.Proofs.YtbkbcfimpaolmaaGreat
open Go.RowKit Go.Proofs
set_option maxRecDepth 100000
-- a drawn region in which one operation, n, changes what holds
def SL (A B : World → Prop) (n : Nat) (L : Nat → Bool) (w : World) : Prop := if L n = true then B w else A w
section
variable {A B : World → Prop} {n i : Nat} {L : Nat → Bool} {w w' : World}
theorem sl_a (h : SL A B n L w) (hl : L n = false) : A w := by unfold SL at h; rw [if_neg (by rw [hl]; simp)] at h; exact h
theorem sl_b (h : SL A B n L w) (hl : L n = true) : B w := by unfold SL at h; rw [if_pos hl] at h; exact h
theorem sl_next (hi : n ≠ i) (h : SL A B n L w) (hA : A w → A w') (hB : B w → B w') : SL A B n (fun j => if j = i then true else L j) w' := by
  unfold SL at h ⊢
  simp only [if_neg hi]
  split
  · rename_i e; rw [if_pos e] at h; exact hB h
  · rename_i e; rw [if_neg e] at h; exact hA h
theorem sl_same (hi : n ≠ i) (h : SL A B n L w) : SL A B n (fun j => if j = i then true else L j) w := sl_next hi h id id
theorem sl_ahead (hi : n ≠ i) (hl : L n = false) (h : A w') : SL A B n (fun j => if j = i then true else L j) w' := by
  unfold SL
  simp only [if_neg hi, hl]
  exact h
theorem sl_done (h : B w') : SL A B n (fun j => if j = n then true else L j) w' := by
  unfold SL
  simp only [if_true]
  exact h
theorem sl_start (h : A w) : SL A B n (fun _ => false) w := by
  unfold SL
  simp only [Bool.false_eq_true, if_false]
  exact h
end
theorem below_drew (w : World) : Below w.heap.size w w.drew := (Below.refl _ w).drew
theorem enterPair9 (args : Array Value) (w : World) : (callFunc 9 args).run Tryz.prog w = .ok (.enter 9 args) w := by kernel_rfl
theorem enterPutC (args : Array Value) (w : World) : (callFunc 8 args).run Tryz.prog w = .ok (.enter 8 args) w := by kernel_rfl
theorem enterPutD (args : Array Value) (w : World) : (callFunc 12 args).run Tryz.prog w = .ok (.enter 12 args) w := by kernel_rfl
theorem enterWantsC (args : Array Value) (w : World) : (callFunc 14 args).run Tryz.prog w = .ok (.enter 14 args) w := by kernel_rfl
theorem close_ok {M : Nat} {σ : Ses} (ok : SesOk M σ) : SesOk (M + 1) (closeS σ) := by
  have q := (ok.drop (fun _ => true) (now := σ.t) ok.t1).mono (show M ≤ M + 1 by omega)
  rw [show max σ.t σ.t = σ.t by omega] at q
  exact q
theorem tmod_gt (n : Int) {m : Int} (hm : 0 < m) : -m < Int.tmod n m := by
  have h := Int.tmod_lt_of_pos (-n) hm
  rw [Int.neg_tmod] at h
  omega
theorem exec_less1 {a : Act} {o : Oper} {w : World} {x y : Operand} (ho : o.op = .binOp .sub 3 x y 3) {m n : Nat} (hx : a.eval x = .int .i64 (m : Int)) (hy : a.eval y = .int .i64 1) (h : m = n + 1) (hm : m ≤ 9223372036854775807 := by omega) : (execOp a.eval o).run Tryz.prog w = .ok (.value (.int .i64 (n : Int))) w := by
  have := exec_subI (w := w) ho hx hy (by omega) (by omega)
  rw [show (m : Int) - 1 = (n : Int) by omega] at this
  exact this
theorem run_bs8 (p : Int) (w : World) : (Instr.buildSlice 67 1 #[(0, .int .u8 p)]).run Tryz.prog w = .ok (.slice (some ⟨w.heap.size, 0, none⟩) 1 1) (w.alloc (.cells #[.int .u8 p] 5)) := by kernel_rfl
theorem act_bs8 {o : Oper} {a : Act} {w : World} {K : Act → World → Prop} {Q : Exit → Act → World → Prop} {x : Operand} {p : Int} (ho : o.op = .buildSlice 67 1 #[(0, x)]) (hx : a.eval x = .int .u8 p)
    (h : ∀ g w', w'.cell? ⟨g, 0, none⟩ = some (.int .u8 p) → Below w.heap.size w w' → K (a.put o.dst (.slice (some ⟨g, 0, none⟩) 1 1)) w') : o.wp Tryz.prog a w K Q := by
  have hr := run_bs8 p w
  unfold Oper.wp execOp
  simp only [ho, List.map_toArray, List.map_cons, List.map_nil, hx, Sem.run_bind, hr, Result.andThen_ok, Sem.run_pure, Oper.upon]
  exact h _ _ (cell_of_row _ _ 0 _ _ _ (heap_alloc_new w _)) ((Below.refl _ _).alloc (Nat.le_refl _) _)
theorem str_back9 (b n : Nat) (w : World) (f : Nat → Int) (hf : ∀ j, j < n → 0 ≤ f j ∧ f j < 256) (hc : ∀ j, j < n → w.cell? ⟨b, j, none⟩ = some (.int .u8 (f j))) {cp : Nat} : (convert 67 9 (.slice (some ⟨b, 0, none⟩) n cp)).run Tryz.prog w = .ok (.string (mkS n f)) w := by
  have h := run_convert_bytes_back (P := Tryz.prog) w 67 9 5 ⟨b, 0, none⟩ cp (bytesL n f) Tryz.underlying67 Tryz.underlying5 Tryz.underlying9 (fun j hj => by
    rw [bytesL_len] at hj
    rw [Addr.add_lit, Nat.zero_add, hc j hj]
    have := hf j hj
    simp [bytesL]
    omega)
  rw [bytesL_len] at h
  exact h
set_option maxHeartbeats 32000000 in
theorem does_run {w0 w : World} {sb rb M : Nat} {σ : Ses} (now : Int) (x : Op9) (h : BoSt w0 sb rb (fun _ => False) w σ σ) (ok : SesOk M σ) (hM : M ≤ 900) (hn0 : 0 ≤ now) (hnow : now ≤ 1000000000) (hU : U64 x.ctr) (hT : x.text.size ≤ 140737488351232) :
    Calls Tryz.prog 6 #[.pointer (some ⟨sb, 0, none⟩), .pointer (some ⟨rb, 0, none⟩), .int .i64 now, .agg (SC 7 (opV x))] w fun e w' => e = .returned (.bool true) ∧ ∃ σ', BoSt w0 sb rb (fun _ => False) w' σ' σ' ∧ SesOk (M + 1) σ' ∧ σ'.t ≤ max σ.t now := by
  go_enter Tryz.func6, Tryz.ntmps6
  go_wp2_with (refine wl_boxG isOp9 (by rfl) ?_; intro g7 w1 hg7 q1 hB1; refine Hid.out ?_)
  refine Hid.mk ?_
  have h1 := (h.keep hg7 hB1).sub (N' := fun k => k = g7) (fun k e => .inr e)
  have hl7 : ∀ k, k = g7 → k < w1.heap.size := fun k e => by subst e; exact SAt.lt q1
  clear h hg7 hB1
  have ck := op_k q1
  have hk1 := Int.tmod_lt_of_pos x.kind (show (0 : Int) < 8 by omega)
  have hk2 := tmod_gt x.kind (show (0 : Int) < 8 by omega)
  go_upto_if 34 with fail
  go_cut [9] (fun s9 wx => ∃ kq : Int, s9 = .int .i64 kq ∧ wx = w1)
  case first =>
    by_cases hneg : Int.tmod x.kind 8 < 0
    · have hd : decide (Int.tmod x.kind 8 < 0) = true := decide_eq_true hneg
      as_aux_lemma =>
        go_wp2_with fail
        go_meet
        case rel => exact ⟨_, rfl, rfl⟩
    · have hd : decide (Int.tmod x.kind 8 < 0) = false := decide_eq_false hneg
      as_aux_lemma =>
        go_wp2_with fail
        go_meet
        case rel => exact ⟨_, rfl, rfl⟩
  case rest =>
    obtain ⟨kq, rfl, hwc⟩ := hcut
    subst hwc
    clear ck hk1 hk2
    by_cases k0 : kq = 0
    · subst k0
      as_aux_lemma =>
        have HPC : Hid (∀ v, (BoSt w0 sb rb (fun k => k = g7) v σ σ ∧ SAt v g7 39 7 (opV x)) → Calls Tryz.prog 8 #[.pointer (some ⟨sb, 0, none⟩), .int .i64 now, .agg (SC 66 (paiV (pks x.nn) (pkr x.nn) (ploc x.nn) (pfar x.nn))), .bool x.first] v fun en w' => ∃ y, en = .returned y ∧ y = .tuple #[.int .i64 (putR σ (ploc x.nn)).1, .int .i64 (putR σ (ploc x.nn)).2] ∧ BoSt w0 sb rb (fun k => k = g7) w' (putS σ now (pks x.nn) (pkr x.nn) (ploc x.nn) (pfar x.nn) x.first) σ ∧ SAt w' g7 39 7 (opV x)) := Hid.mk (fun v hv => by
          have l7 := SAt.lt hv.2
          refine (hv.1.callC (P := fun en _ => en = .returned (.tuple #[.int .i64 (putR σ (ploc x.nn)).1, .int .i64 (putR σ (ploc x.nn)).2])) (fun k e => by subst e; exact l7) (fun S hS => Put_run now (pks x.nn) (pkr x.nn) (ploc x.nn) (pfar x.nn) x.first hS ok.c0 (by have := ok.c1; omega))).mono ?_
          rintro en w' ⟨rfl, p1, p2⟩
          exact ⟨_, rfl, rfl, p1, hv.2.block (p2.2 g7 l7 rfl)⟩)
        have HPD : Hid (∀ v, (BoSt w0 sb rb (fun k => k = g7) v (putS σ now (pks x.nn) (pkr x.nn) (ploc x.nn) (pfar x.nn) x.first) σ ∧ SAt v g7 39 7 (opV x)) → Calls Tryz.prog 12 #[.pointer (some ⟨rb, 0, none⟩), .int .i64 now, .agg (SC 66 (paiV (pks x.nn) (pkr x.nn) (ploc x.nn) (pfar x.nn))), .bool x.first] v fun en w' => ∃ y, en = .returned y ∧ y = .tuple #[.int .i64 (putR σ (ploc x.nn)).1, .int .i64 (putR σ (ploc x.nn)).2] ∧ BoSt w0 sb rb (fun k => k = g7) w' (putS σ now (pks x.nn) (pkr x.nn) (ploc x.nn) (pfar x.nn) x.first) (putS σ now (pks x.nn) (pkr x.nn) (ploc x.nn) (pfar x.nn) x.first) ∧ SAt w' g7 39 7 (opV x)) := Hid.mk (fun v hv => by
          have l7 := SAt.lt hv.2
          refine (hv.1.callD (P := fun en _ => en = .returned (.tuple #[.int .i64 (putR σ (ploc x.nn)).1, .int .i64 (putR σ (ploc x.nn)).2])) (fun k e => by subst e; exact l7) (fun S hS => rPut_run now (pks x.nn) (pkr x.nn) (ploc x.nn) (pfar x.nn) x.first hS ok.c0 (by have := ok.c1; omega))).mono ?_
          rintro en w' ⟨rfl, p1, p2⟩
          exact ⟨_, rfl, rfl, p1, hv.2.block (p2.2 g7 l7 rfl)⟩)
        have HOK : Hid (SesOk (M + 1) (putS σ now (pks x.nn) (pkr x.nn) (ploc x.nn) (pfar x.nn) x.first) ∧ (putS σ now (pks x.nn) (pkr x.nn) (ploc x.nn) (pfar x.nn) x.first).t ≤ max σ.t now) := Hid.mk ⟨ok.put (by omega) x.first (pks_b _) (pkr_b _) (by unfold ploc; omega) (by unfold ploc; omega) (by unfold pfar; omega) (by unfold pfar; omega), by rw [put_t]; exact Int.le_refl _⟩
        clear ok
        generalize (putS σ now (pks x.nn) (pkr x.nn) (ploc x.nn) (pfar x.nn) x.first) = σ1 at *
        generalize (putR σ (ploc x.nn)).1 = ra at *
        generalize (putR σ (ploc x.nn)).2 = re at *
        go_wp2_with fail
        refine wp_region_steps4 (SL (fun v => BoSt w0 sb rb (fun k => k = g7) v σ σ ∧ SAt v g7 39 7 (opV x)) (fun v => BoSt w0 sb rb (fun k => k = g7) v σ1 σ ∧ SAt v g7 39 7 (opV x)) 7) (fun j vv => vv = ([.pointer (some ⟨sb, 0, none⟩), .int .i64 now, .pointer (some ⟨g7, 0 + 2, none⟩), .int .i64 x.nn, .agg (SC 66 (paiV (pks x.nn) (pkr x.nn) (ploc x.nn) (pfar x.nn))), .pointer (some ⟨g7, 0 + 4, none⟩), .bool x.first, .tuple #[.int .i64 ra, .int .i64 re], .tuple #[.int .i64 ra, .int .i64 re], .int .i64 ra, .int .i64 re, .int .i64 ra, .int .i64 re] : List Value).getD j undef)
            [41, 42, 43, 44, 45, 46, 47, 48, 40, 49, 50, 10, 11]
            [(0, .pointer (some ⟨sb, 0, none⟩)), (2, .int .i64 now), (7, .pointer (some ⟨g7, 0, none⟩))]
            [[], [], [], [2], [3], [], [5], [0, 1, 4, 6], [7], [8], [8], [9], [10]]
            [[], [], [], [], [3], [], [], [3, 4, 6], [3, 4, 6, 7], [3, 4, 6, 7], [3, 4, 6, 7], [3, 4, 6, 7], [3, 4, 6, 7]]
            [[], [], [], [7], [7], [], [7], [], [], [], [], [], []]
            rfl (by kernel_rfl) ⟨rfl, rfl, rfl, trivial⟩ (sl_start ⟨h1.below (below_drew _), SAt.kept q1 (below_drew _)⟩)
            ⟨
              (fun Q L aq ww hS hun hq hd fr kn => ⟨trivial, fun K hK => wp_value (exec_move rfl fr.1) (hK _ _ rfl (sl_same (by decide) hS))⟩),
              (fun Q L aq ww hS hun hq hd fr kn => ⟨trivial, fun K hK => wp_value (exec_move rfl fr.2.1) (hK _ _ rfl (sl_same (by decide) hS))⟩),
              (fun Q L aq ww hS hun hq hd fr kn => ⟨trivial, fun K hK => wp_value (exec_fop (k := 2) rfl fr.2.2.1 (by decide)) (hK _ _ rfl (sl_same (by decide) hS))⟩),
              (fun Q L aq ww hS hun hq hd fr kn => ⟨trivial, fun K hK => wp_value (exec_ld rfl kn.1 (ld_int (op_n (sl_a hS hd.1).2))) (hK _ _ rfl (sl_same (by decide) hS))⟩),
              (fun Q L aq ww hS hun hq hd fr kn => ⟨trivial, fun K hK => stepc enterPair9 rfl (args1 kn.1) (pair_run x.nn ww) (fun w' hb => hK _ _ rfl (sl_ahead (by decide) hd.1 (And.intro ((sl_a hS hd.1).1.below hb) (SAt.kept (sl_a hS hd.1).2 hb))))⟩),
              (fun Q L aq ww hS hun hq hd fr kn => ⟨trivial, fun K hK => wp_value (exec_fop (k := 4) rfl fr.2.2.1 (by decide)) (hK _ _ rfl (sl_same (by decide) hS))⟩),
              (fun Q L aq ww hS hun hq hd fr kn => ⟨trivial, fun K hK => wp_value (exec_ld rfl kn.1 (ld_bool (op_f (sl_a hS hd.1).2))) (hK _ _ rfl (sl_same (by decide) hS))⟩),
              (fun Q L aq ww hS hun hq hd fr kn => ⟨trivial, fun K hK => stepp enterPutC rfl (args4 kn.1 kn.2.1 kn.2.2.1 kn.2.2.2.1) (HPC.out ww (sl_a hS hun)) (fun v w' hv => hK _ _ hv.1 (sl_done hv.2))⟩),
              (fun Q L aq ww hS hun hq hd fr kn => ⟨trivial, fun K hK => wp_value (exec_move rfl kn.1) (hK _ _ rfl (sl_same (by decide) hS))⟩),
              (fun Q L aq ww hS hun hq hd fr kn => ⟨trivial, fun K hK => wp_value (exec_ext rfl kn.1 rfl) (hK _ _ rfl (sl_same (by decide) hS))⟩),
              (fun Q L aq ww hS hun hq hd fr kn => ⟨trivial, fun K hK => wp_value (exec_ext rfl kn.1 rfl) (hK _ _ rfl (sl_same (by decide) hS))⟩),
              (fun Q L aq ww hS hun hq hd fr kn => ⟨trivial, fun K hK => wp_value (exec_assign rfl kn.1) (hK _ _ rfl (sl_same (by decide) hS))⟩),
              (fun Q L aq ww hS hun hq hd fr kn => ⟨trivial, fun K hK => wp_value (exec_assign rfl kn.1) (hK _ _ rfl (sl_same (by decide) hS))⟩),
              trivial⟩ ?_
        intro vs L wA hS6 hL6 hk6
        obtain ⟨hA, qA⟩ := sl_b hS6 (hL6 7 (by decide))
        have e10 : vs 10 = .int .i64 ra := hk6 11 (by decide)
        have e11 : vs 11 = .int .i64 re := hk6 12 (by decide)
        clear hk6 hS6 hL6 HPC h1 q1
        simp only [putAll, Act.put, List.setIfInBounds_toArray, List.set_cons_zero, List.set_cons_succ, e10, e11]
        clear e10 e11
        go_wp2_with fail
        refine wp_region_steps4 (SL (fun v => BoSt w0 sb rb (fun k => k = g7) v σ1 σ ∧ SAt v g7 39 7 (opV x)) (fun v => BoSt w0 sb rb (fun k => k = g7) v σ1 σ1 ∧ SAt v g7 39 7 (opV x)) 7) (fun j vv => vv = ([.pointer (some ⟨rb, 0, none⟩), .int .i64 now, .pointer (some ⟨g7, 0 + 2, none⟩), .int .i64 x.nn, .agg (SC 66 (paiV (pks x.nn) (pkr x.nn) (ploc x.nn) (pfar x.nn))), .pointer (some ⟨g7, 0 + 4, none⟩), .bool x.first, .tuple #[.int .i64 ra, .int .i64 re], .tuple #[.int .i64 ra, .int .i64 re], .int .i64 ra, .int .i64 re, .int .i64 ra, .int .i64 re] : List Value).getD j undef)
            [52, 53, 54, 55, 56, 57, 58, 59, 51, 60, 61, 12, 13]
            [(1, .pointer (some ⟨rb, 0, none⟩)), (2, .int .i64 now), (7, .pointer (some ⟨g7, 0, none⟩))]
            [[], [], [], [2], [3], [], [5], [0, 1, 4, 6], [7], [8], [8], [9], [10]]
            [[], [], [], [], [3], [], [], [3, 4, 6], [3, 4, 6, 7], [3, 4, 6, 7], [3, 4, 6, 7], [3, 4, 6, 7], [3, 4, 6, 7]]
            [[], [], [], [7], [7], [], [7], [], [], [], [], [], []]
            rfl (by kernel_rfl) ⟨rfl, rfl, rfl, trivial⟩ (sl_start ⟨hA.below (below_drew _), SAt.kept qA (below_drew _)⟩)
            ⟨
              (fun Q L aq ww hS hun hq hd fr kn => ⟨trivial, fun K hK => wp_value (exec_move rfl fr.1) (hK _ _ rfl (sl_same (by decide) hS))⟩),
              (fun Q L aq ww hS hun hq hd fr kn => ⟨trivial, fun K hK => wp_value (exec_move rfl fr.2.1) (hK _ _ rfl (sl_same (by decide) hS))⟩),
              (fun Q L aq ww hS hun hq hd fr kn => ⟨trivial, fun K hK => wp_value (exec_fop (k := 2) rfl fr.2.2.1 (by decide)) (hK _ _ rfl (sl_same (by decide) hS))⟩),
              (fun Q L aq ww hS hun hq hd fr kn => ⟨trivial, fun K hK => wp_value (exec_ld rfl kn.1 (ld_int (op_n (sl_a hS hd.1).2))) (hK _ _ rfl (sl_same (by decide) hS))⟩),
              (fun Q L aq ww hS hun hq hd fr kn => ⟨trivial, fun K hK => stepc enterPair9 rfl (args1 kn.1) (pair_run x.nn ww) (fun w' hb => hK _ _ rfl (sl_ahead (by decide) hd.1 (And.intro ((sl_a hS hd.1).1.below hb) (SAt.kept (sl_a hS hd.1).2 hb))))⟩),
              (fun Q L aq ww hS hun hq hd fr kn => ⟨trivial, fun K hK => wp_value (exec_fop (k := 4) rfl fr.2.2.1 (by decide)) (hK _ _ rfl (sl_same (by decide) hS))⟩),
              (fun Q L aq ww hS hun hq hd fr kn => ⟨trivial, fun K hK => wp_value (exec_ld rfl kn.1 (ld_bool (op_f (sl_a hS hd.1).2))) (hK _ _ rfl (sl_same (by decide) hS))⟩),
              (fun Q L aq ww hS hun hq hd fr kn => ⟨trivial, fun K hK => stepp enterPutD rfl (args4 kn.1 kn.2.1 kn.2.2.1 kn.2.2.2.1) (HPD.out ww (sl_a hS hun)) (fun v w' hv => hK _ _ hv.1 (sl_done hv.2))⟩),
              (fun Q L aq ww hS hun hq hd fr kn => ⟨trivial, fun K hK => wp_value (exec_move rfl kn.1) (hK _ _ rfl (sl_same (by decide) hS))⟩),
              (fun Q L aq ww hS hun hq hd fr kn => ⟨trivial, fun K hK => wp_value (exec_ext rfl kn.1 rfl) (hK _ _ rfl (sl_same (by decide) hS))⟩),
              (fun Q L aq ww hS hun hq hd fr kn => ⟨trivial, fun K hK => wp_value (exec_ext rfl kn.1 rfl) (hK _ _ rfl (sl_same (by decide) hS))⟩),
              (fun Q L aq ww hS hun hq hd fr kn => ⟨trivial, fun K hK => wp_value (exec_assign rfl kn.1) (hK _ _ rfl (sl_same (by decide) hS))⟩),
              (fun Q L aq ww hS hun hq hd fr kn => ⟨trivial, fun K hK => wp_value (exec_assign rfl kn.1) (hK _ _ rfl (sl_same (by decide) hS))⟩),
              trivial⟩ ?_
        intro vs L wB hS6 hL6 hk6
        obtain ⟨hB, qB⟩ := sl_b hS6 (hL6 7 (by decide))
        have e12 : vs 12 = .int .i64 ra := hk6 11 (by decide)
        have e13 : vs 13 = .int .i64 re := hk6 12 (by decide)
        clear hk6 hS6 hL6 HPD hA qA
        simp only [putAll, Act.put, List.setIfInBounds_toArray, List.set_cons_zero, List.set_cons_succ, e12, e13]
        clear e12 e13
        have HX := Hid.mk (hB.sub (N' := fun _ => False) (fun k e => e.elim))
        clear hB qB
        go_wp2_with fail
        go_ret
        exact ⟨rfl, σ1, HX.out, HOK.out.1, HOK.out.2⟩
    have n0 : (kq == 0) = false := beq_eq_false_iff_ne.2 k0
    by_cases k1 : kq = 1
    · subst k1
      as_aux_lemma =>
        have ct := op_t q1
        have HC : Hid (Calls Tryz.prog 10 #[.pointer (some ⟨sb, 0, none⟩), .int .i64 now, .string x.text] wc fun en w' => en = .returned (.tuple #[.int .u32 (sealR σ now x.text).1, .int .u64 (sealR σ now x.text).2.1, .string (sealR σ now x.text).2.2.1, .int .i64 (sealR σ now x.text).2.2.2]) ∧ BoSt w0 sb rb (fun k => k = g7) w' (sealS σ now) σ ∧ Kept (fun k => k = g7) wc w') := Hid.mk (h1.callC (P := fun en _ => en = .returned (.tuple #[.int .u32 (sealR σ now x.text).1, .int .u64 (sealR σ now x.text).2.1, .string (sealR σ now x.text).2.2.1, .int .i64 (sealR σ now x.text).2.2.2])) hl7 (fun S hS => Seal_run9 now x.text hS ok (by omega) (by omega) (by omega)))
        have HD : Hid (∀ v, BoSt w0 sb rb (fun k => k = g7) v (sealS σ now) σ → (∀ k, k = g7 → k < v.heap.size) → Calls Tryz.prog 13 #[.pointer (some ⟨rb, 0, none⟩), .int .i64 now, .string x.text] v fun en w' => en = .returned (.tuple #[.int .u32 (sealR σ now x.text).1, .int .u64 (sealR σ now x.text).2.1, .string (sealR σ now x.text).2.2.1, .int .i64 (sealR σ now x.text).2.2.2]) ∧ BoSt w0 sb rb (fun k => k = g7) w' (sealS σ now) (sealS σ now) ∧ Kept (fun k => k = g7) v w') := Hid.mk (fun v hv hl => hv.callD (P := fun en _ => en = .returned (.tuple #[.int .u32 (sealR σ now x.text).1, .int .u64 (sealR σ now x.text).2.1, .string (sealR σ now x.text).2.2.1, .int .i64 (sealR σ now x.text).2.2.2])) hl (fun S hS => rSeal_run9 now x.text hS ok (by omega) (by omega) (by omega)))
        have HOK : Hid (SesOk (M + 1) (sealS σ now) ∧ (sealS σ now).t ≤ max σ.t now) := Hid.mk ⟨ok.seal (by omega), by rw [seal_t]; exact Int.le_refl _⟩
        clear ok
        generalize sealS σ now = σ1 at *
        generalize (sealR σ now x.text).1 = ra at *
        generalize (sealR σ now x.text).2.1 = rn at *
        generalize (sealR σ now x.text).2.2.1 = rx at *
        generalize (sealR σ now x.text).2.2.2 = re at *
        go_wp2_with fail
        refine HC.out.mono ?_
        rintro e wA ⟨rfl, hA, kA⟩
        have qA := q1.block (kA.2 g7 (SAt.lt q1) rfl)
        have ct2 := op_t qA
        have lA := SAt.lt qA
        clear HC h1 q1 ct hl7 kA
        go_wp2_with fail
        refine (HD.out wA hA (fun k e => by subst e; exact lA)).mono ?_
        rintro e wB ⟨rfl, hB, kB⟩
        have HX := Hid.mk (hB.sub (N' := fun _ => False) (fun k e => e.elim))
        clear HD hA qA ct2 hB kB
        go_wp2_with (refine wl_value rfl (exec_eqS (s := rx) rfl (by rfl) (by rfl)) ?_)
        go_ret
        exact ⟨rfl, σ1, HX.out, HOK.out.1, HOK.out.2⟩
    have n1 : (kq == 1) = false := beq_eq_false_iff_ne.2 k1
    by_cases k5 : kq = 5
    · subst k5
      as_aux_lemma =>
        have HW : Hid (∀ v, (SAt v g7 39 7 (opV x) ∧ (BoSt w0 sb rb (fun k => k = g7) v σ σ ∨ BoSt w0 sb rb (fun k => k = g7) v (tellS σ now) σ)) → Calls Tryz.prog 14 #[.pointer (some ⟨sb, 0, none⟩), .int .i64 now, .bool x.first] v fun en w' => ∃ y, en = .returned y ∧ y = .bool (wantsF σ now x.first) ∧ BoSt w0 sb rb (fun k => k = g7) w' (tellS σ now) σ ∧ SAt w' g7 39 7 (opV x)) := Hid.mk (fun v hv => by
          have l7 := SAt.lt hv.1
          have okt : SesOk M (tellS σ now) := ok.tell (by omega)
          have e1 : tellS (tellS σ now) now = tellS σ now := by unfold tellS; simp only [Ses.mk.injEq, and_true]; omega
          have e2 : wantsF (tellS σ now) now x.first = wantsF σ now x.first := by unfold wantsF tellS; simp only [show max (max σ.t now) now = max σ.t now by omega]
          rcases hv.2 with hb | hb
          · refine (hb.callC (σ' := tellS σ now) (P := fun en _ => en = .returned (.bool (wantsF σ now x.first))) (fun k e => by subst e; exact l7) (fun S hS => Wants_run now x.first hS ok (by omega) (by omega))).mono ?_
            rintro en w' ⟨rfl, p1, p2⟩
            exact ⟨_, rfl, rfl, p1, hv.1.block (p2.2 g7 l7 rfl)⟩
          · refine (hb.callC (σ' := tellS σ now) (P := fun en _ => en = .returned (.bool (wantsF σ now x.first))) (fun k e => by subst e; exact l7) (fun S hS => by
              have := Wants_run now x.first hS okt (by omega) (by omega)
              rw [e1, e2] at this
              exact this)).mono ?_
            rintro en w' ⟨rfl, p1, p2⟩
            exact ⟨_, rfl, rfl, p1, hv.1.block (p2.2 g7 l7 rfl)⟩)
        have HWD : Hid (∀ v, BoSt w0 sb rb (fun k => k = g7) v (tellS σ now) σ → (∀ k, k = g7 → k < v.heap.size) → Calls Tryz.prog 15 #[.pointer (some ⟨rb, 0, none⟩), .int .i64 now, .bool x.first] v fun en w' => en = .returned (.bool (wantsF σ now x.first)) ∧ BoSt w0 sb rb (fun k => k = g7) w' (tellS σ now) (tellS σ now) ∧ Kept (fun k => k = g7) v w') := Hid.mk (fun v hv hl => hv.callD (P := fun en _ => en = .returned (.bool (wantsF σ now x.first))) hl (fun S hS => rWants_run now x.first hS ok (by omega) (by omega)))
        have HOK : Hid (SesOk (M + 1) (tellS σ now) ∧ (tellS σ now).t ≤ max σ.t now) := Hid.mk ⟨(ok.tell (by omega)).mono (by omega), Int.le_refl _⟩
        clear ok
        generalize tellS σ now = σt at *
        generalize wantsF σ now x.first = wv at *
        go_wp2_with fail
        refine wp_region_cut 9 rfl (by kernel_rfl) (any_steps (fun v => SAt v g7 39 7 (opV x) ∧ (BoSt w0 sb rb (fun k => k = g7) v σ σ ∨ BoSt w0 sb rb (fun k => k = g7) v σt σ)) (fun v v' => ((SAt v g7 39 7 (opV x) ∧ (BoSt w0 sb rb (fun k => k = g7) v σ σ ∨ BoSt w0 sb rb (fun k => k = g7) v σt σ)) → (SAt v' g7 39 7 (opV x) ∧ (BoSt w0 sb rb (fun k => k = g7) v' σ σ ∨ BoSt w0 sb rb (fun k => k = g7) v' σt σ))) ∧ (BoSt w0 sb rb (fun k => k = g7) v σt σ → BoSt w0 sb rb (fun k => k = g7) v' σt σ)) (fun i v v0 => match i with | 0 => v = .pointer (some ⟨sb, 0, none⟩) | 1 => v = .int .i64 now | 2 => v = .pointer (some ⟨g7, 0 + 4, none⟩) | 3 => v = .bool x.first | 4 => v = .bool wv ∧ BoSt w0 sb rb (fun k => k = g7) v0 σt σ | 5 => v = .pointer (some ⟨rb, 0, none⟩) | 6 => v = .int .i64 now | 7 => v = .pointer (some ⟨g7, 0 + 4, none⟩) | 8 => v = .bool x.first | _ => True)
            [112, 113, 114, 115, 116, 117, 118, 119, 120]
            [(0, .pointer (some ⟨sb, 0, none⟩)), (1, .pointer (some ⟨rb, 0, none⟩)), (2, .int .i64 now), (7, .pointer (some ⟨g7, 0, none⟩))]
            [[], [], [], [2], [0, 1, 3], [], [], [], [7]]
            (by kernel_rfl) ⟨rfl, rfl, rfl, rfl, trivial⟩ ⟨SAt.kept q1 (below_drew _), .inl (h1.below (below_drew _))⟩ (fun v v' h r => r.1 h) ?_
            ⟨
              (fun Q a1 ww hS fr kn => ⟨trivial, fun K hK => wp_value (exec_move rfl fr.1) (hK _ _ rfl ⟨fun h => h, fun h => h⟩)⟩),
              (fun Q a1 ww hS fr kn => ⟨trivial, fun K hK => wp_value (exec_move rfl fr.2.2.1) (hK _ _ rfl ⟨fun h => h, fun h => h⟩)⟩),
              (fun Q a1 ww hS fr kn => ⟨trivial, fun K hK => wp_value (exec_fop (k := 4) rfl fr.2.2.2.1 (by decide)) (hK _ _ rfl ⟨fun h => h, fun h => h⟩)⟩),
              (fun Q a1 ww hS fr kn => ⟨trivial, fun K hK => wp_value (exec_ld rfl kn.1 (ld_bool (op_f hS.1))) (hK _ _ rfl ⟨fun h => h, fun h => h⟩)⟩),
              (fun Q a1 ww hS fr kn => ⟨trivial, fun K hK => stepp enterWantsC rfl (args3 kn.1 kn.2.1 kn.2.2.1) (HW.out ww hS) (fun v w' hv => hK _ _ ⟨hv.1, hv.2.1⟩ ⟨fun _ => ⟨hv.2.2, .inr hv.2.1⟩, fun _ => hv.2.1⟩)⟩),
              (fun Q a1 ww hS fr kn => ⟨trivial, fun K hK => wp_value (exec_move rfl fr.2.1) (hK _ _ rfl ⟨fun h => h, fun h => h⟩)⟩),
              (fun Q a1 ww hS fr kn => ⟨trivial, fun K hK => wp_value (exec_move rfl fr.2.2.1) (hK _ _ rfl ⟨fun h => h, fun h => h⟩)⟩),
              (fun Q a1 ww hS fr kn => ⟨trivial, fun K hK => wp_value (exec_fop (k := 4) rfl fr.2.2.2.1 (by decide)) (hK _ _ rfl ⟨fun h => h, fun h => h⟩)⟩),
              (fun Q a1 ww hS fr kn => ⟨trivial, fun K hK => wp_value (exec_ld rfl kn.1 (ld_bool (op_f hS.1))) (hK _ _ rfl ⟨fun h => h, fun h => h⟩)⟩),
              trivial⟩ ?_)
        · intro i v u' u'' hh hb
          match i with
          | 0 | 1 | 2 | 3 | 5 | 6 | 7 | 8 => exact hh
          | 4 => obtain ⟨e, hb2⟩ := hh; exact ⟨e, hb.2 hb2⟩
          | n + 9 => trivial
        intro vs wA hSA hkA
        obtain ⟨e116, hA⟩ := hkA 4 (by decide)
        replace e116 : vs 116 = .bool wv := e116
        have e117 : vs 117 = .pointer (some ⟨rb, 0, none⟩) := hkA 5 (by decide)
        have e118 : vs 118 = .int .i64 now := hkA 6 (by decide)
        have e120 : vs 120 = .bool x.first := hkA 8 (by decide)
        have lA := SAt.lt hSA.1
        clear hkA hSA HW h1 q1 hl7
        show wpList Tryz.prog _ _ (_ :: _ :: _ :: []) _ _
        simp only [putAll, Act.put, List.setIfInBounds_toArray, List.set_cons_zero, List.set_cons_succ, e116, e117, e118, e120]
        clear e116 e117 e118 e120
        go_wp2_with fail
        refine (HWD.out wA hA (fun k e => by subst e; exact lA)).mono ?_
        rintro e wB ⟨rfl, hB, kB⟩
        have HX := Hid.mk (hB.sub (N' := fun _ => False) (fun k e => e.elim))
        clear HWD hA hB kB
        go_wp2_with fail
        go_ret
        exact ⟨rfl, σt, HX.out, HOK.out.1, HOK.out.2⟩
    have n5 : (kq == 5) = false := beq_eq_false_iff_ne.2 k5
    by_cases k6 : kq = 6
    · subst k6
      as_aux_lemma =>
        obtain ⟨S, T, hat⟩ := h1.sub (N' := fun _ => False) (fun k e => e.elim)
        have HC := Hid.mk (Expire_run now hat.code ok (by omega))
        have HDL := Hid.mk (dropL_len (oldF (max σ.t now)) σ.K 3)
        have HD : Hid (∀ v, SesD v rb σ T → Calls Tryz.prog 18 #[.pointer (some ⟨rb, 0, none⟩), .int .i64 now] v fun e w' => ∃ vo, e = .returned vo ∧ w'.ownsRow v.heap.size 28 1 vo (dropL (oldF (max σ.t now)) σ.K 3).length (u32X (dropL (oldF (max σ.t now)) σ.K 3)) ∧ Goes SesD v rb T (expireS σ now) w') := Hid.mk (fun v hv => rExpire_run now hv ok (by omega))
        have HOK : Hid (SesOk (M + 1) (expireS σ now) ∧ (expireS σ now).t ≤ max σ.t now) := Hid.mk ⟨(ok.drop _ (by omega)).mono (by omega), Int.le_refl _⟩
        clear ok h1 q1 hl7
        generalize dropL (oldF (max σ.t now)) σ.K 3 = l at *
        generalize (expireS σ now) = σ1 at *
        go_wp2_with fail
        refine HC.out.mono ?_
        rintro e wA ⟨va, rfl, hOA, hGA⟩
        obtain ⟨⟨SA, hatA⟩, _⟩ := hat.goC (fun k e => e.elim) hGA
        have hlt : ∀ k, T k → k < wc.heap.size := fun k hk => hat.doc.lt k hk
        have HD2 := Hid.mk (HD.out wA hatA.doc)
        clear HC hGA HD hat
        go_wp2_with fail
        refine HD2.out.mono ?_
        rintro e wB ⟨vb, rfl, hOB, hGB⟩
        obtain ⟨hbB, _⟩ := hatA.goD (fun k e => e.elim) hGB
        have hOA2 : wB.ownsRow wc.heap.size 28 1 va l.length (u32X l) := own_blockD hOA (fun k hk => by
          obtain ⟨T', _, hT, _⟩ := hGB
          exact hT.block k (own_ltD hOA k hk).2 (fun ht => by have := hlt k ht; have := (own_ltD hOA k hk).1; omega))
        have HS := Hid.mk (same_run hOA2 hOB (HDL.out))
        have hbB2 : BoSt w0 sb rb (fun _ => False) wB σ1 σ1 := hbB
        clear HD2 hatA hOA hOB hGB hbB hOA2 hlt
        go_wp2_with fail
        refine HS.out.mono ?_
        rintro e wC ⟨rfl, hBC⟩
        have HX := Hid.mk (hbB2.below hBC)
        clear HS hbB2 hBC
        go_wp2_with fail
        go_ret
        exact ⟨rfl, σ1, HX.out, HOK.out.1, HOK.out.2⟩
    have n6 : (kq == 6) = false := beq_eq_false_iff_ne.2 k6
    by_cases k7 : kq = 7
    · subst k7
      as_aux_lemma =>
        have cn := op_n q1
        by_cases h7 : x.nn = 7
        · rw [h7] at cn
          obtain ⟨S, T, hat⟩ := h1.sub (N' := fun _ => False) (fun k e => e.elim)
          have HC := Hid.mk (Close_run hat.code)
          have HDL := Hid.mk (dropL_len (fun _ => true) σ.K 3)
          have HD : Hid (∀ v, SesD v rb σ T → Calls Tryz.prog 20 #[.pointer (some ⟨rb, 0, none⟩)] v fun e w' => ∃ vo, e = .returned vo ∧ w'.ownsRow v.heap.size 28 1 vo (dropL (fun _ => true) σ.K 3).length (u32X (dropL (fun _ => true) σ.K 3)) ∧ Goes SesD v rb T (closeS σ) w') := Hid.mk (fun v hv => rClose_run hv)
          have HOK : Hid (SesOk (M + 1) (closeS σ) ∧ (closeS σ).t ≤ max σ.t now) := Hid.mk ⟨close_ok ok, by show σ.t ≤ max σ.t now; omega⟩
          clear ok h1 q1 hl7
          generalize dropL (fun _ => true) σ.K 3 = l at *
          generalize (closeS σ) = σ1 at *
          go_wp2_with fail
          refine HC.out.mono ?_
          rintro e wA ⟨va, rfl, hOA, hGA⟩
          obtain ⟨⟨SA, hatA⟩, _⟩ := hat.goC (fun k e => e.elim) hGA
          have hlt : ∀ k, T k → k < wc.heap.size := fun k hk => hat.doc.lt k hk
          have HD2 := Hid.mk (HD.out wA hatA.doc)
          clear HC hGA HD hat
          go_wp2_with fail
          refine HD2.out.mono ?_
          rintro e wB ⟨vb, rfl, hOB, hGB⟩
          obtain ⟨hbB, _⟩ := hatA.goD (fun k e => e.elim) hGB
          have hOA2 : wB.ownsRow wc.heap.size 28 1 va l.length (u32X l) := own_blockD hOA (fun k hk => by
            obtain ⟨T', _, hT, _⟩ := hGB
            exact hT.block k (own_ltD hOA k hk).2 (fun ht => by have := hlt k ht; have := (own_ltD hOA k hk).1; omega))
          have HS := Hid.mk (same_run hOA2 hOB (HDL.out))
          have hbB2 : BoSt w0 sb rb (fun _ => False) wB σ1 σ1 := hbB
          clear HD2 hatA hOA hOB hGB hbB hOA2 hlt
          go_wp2_with fail
          refine HS.out.mono ?_
          rintro e wC ⟨rfl, hBC⟩
          have HX := Hid.mk (hbB2.below hBC)
          clear HS hbB2 hBC
          go_wp2_with fail
          go_ret
          exact ⟨rfl, σ1, HX.out, HOK.out.1, HOK.out.2⟩
        · have h7d : (x.nn == 7) = false := beq_eq_false_iff_ne.2 h7
          have HX := Hid.mk (h1.sub (N' := fun _ => False) (fun k e => e.elim))
          have HOK : Hid (SesOk (M + 1) σ ∧ σ.t ≤ max σ.t now) := Hid.mk ⟨ok.mono (by omega), by omega⟩
          clear ok h1 q1 hl7
          go_wp2_with fail
          go_ret
          exact ⟨rfl, σ, HX.out, HOK.out.1, HOK.out.2⟩
    have n7 : (kq == 7) = false := beq_eq_false_iff_ne.2 k7
    as_aux_lemma =>
      have cn := op_n q1
      go_wp2_with fail
      refine (pair_run x.nn wc).mono ?_
      rintro e wA ⟨rfl, hBA⟩
      have hA := h1.below hBA
      have qA := SAt.kept q1 hBA
      clear h1 q1 hBA cn
      go_wp2_with (refine wl_alO rfl rfl zeroPairV ?_; intro g9 wB hg9 q9 hBB; refine Hid.out ?_)
      refine Hid.mk ?_
      have hB := hA.keep hg9 hBB
      have qB := SAt.kept qA hBB
      have hl8 := SAt.lt qA
      have hg9w : w0.heap.size ≤ g9 := Nat.le_trans hA.size hg9
      clear hA qA hBB
      go_wp2_with (refine st_stO rfl rfl isPair (paiV_one _ _ _ _) q9 (by rfl) (by rfl) ?_; intro wE qE oE; refine Hid.out ?_)
      refine Hid.mk ?_
      have hE := hB.only (.inr rfl) oE hg9w
      have q7 := qB.only oE (by omega)
      clear hB qB q9 oE hg9 hg9w hl8 hl7
      have H7 : Hid (∀ v, Below wE.heap.size wE v → SAt v g7 39 7 (opV x)) := Hid.mk (fun v hv => SAt.kept q7 hv)
      have H9 : Hid (∀ v, Below wE.heap.size wE v → SAt v g9 30 66 (paiV (pks x.nn) (pkr x.nn) (ploc x.nn) (pfar x.nn))) := Hid.mk (fun v hv => SAt.kept qE hv)
      have hU2 : Hid (0 ≤ x.ctr ∧ x.ctr < 18446744073709551616) := Hid.mk (by unfold U64 at hU; omega)
      have hT2 : Hid (x.text.size ≤ 140737488355328) := Hid.mk (by omega)
      go_wp2_with fail
      refine wp_region3 (Below wE.heap.size wE) wE.heap.size
          ([] : List (Nat × Cont))
          [kv (.pointer (some ⟨g9, 0 + 32, none⟩)), kv (.agg (WA .u8 32 (pkr x.nn))), kv (.pointer (some ⟨g7, 0 + 3, none⟩)), kv (.int .u64 x.ctr), kv (.agg (WA .u8 12 (nonN x.ctr))), kv (.pointer (some ⟨g7, 0 + 6, none⟩)), kv (.string x.text), kv (.string (boxT (pkr x.nn) (nonN x.ctr) x.text ByteArray.empty)), kv (.string (boxT (pkr x.nn) (nonN x.ctr) x.text ByteArray.empty))]
          [.none, .none, .none, .none, .none, .none, .none, .none, .none]
          [some 145, some 146, some 147, some 148, some 149, some 150, some 151, some 152, some 23]
          [(22, .pointer (some ⟨g9, 0, none⟩)), (7, .pointer (some ⟨g7, 0, none⟩))]
          [[], [.slot 0], [], [.slot 2], [.slot 3], [], [.slot 5], [.slot 1, .slot 4, .slot 6], [.slot 7]]
          [.slot 8] [145, 146, 147, 148, 149, 150, 151, 152, 23]
          rfl (by kernel_rfl) ⟨rfl, rfl, trivial⟩ (Below.refl _ wE).drew (Nat.le_refl _) trivial trivial (below_G (Nat.le_refl _) trivial)
          ⟨
            (fun Q aq ww own hS hBg fr kn => .inl ⟨trivial, fun K hK => wp_value (exec_fpa (k := 1) rfl fr.1 (by decide)) (hK _ _ ⟨Touch.refl _ _, rfl⟩)⟩),
            (fun Q aq ww own hS hBg fr kn => .inl ⟨trivial, fun K hK => wp_value (exec_ldmid rfl isArr32 kn.1 (pai_r (H9.out ww hS))) (hK _ _ ⟨Touch.refl _ _, rfl⟩)⟩),
            (fun Q aq ww own hS hBg fr kn => .inl ⟨trivial, fun K hK => wp_value (exec_fop (k := 3) rfl fr.2.1 (by decide)) (hK _ _ ⟨Touch.refl _ _, rfl⟩)⟩),
            (fun Q aq ww own hS hBg fr kn => .inl ⟨trivial, fun K hK => wp_value (exec_ld rfl kn.1 (ld_u64 (op_c (H7.out ww hS)))) (hK _ _ ⟨Touch.refl _ _, rfl⟩)⟩),
            (fun Q aq ww own hS hBg fr kn => .inl ⟨trivial, fun K hK => stepc enterRNonce9 rfl (args1 kn.1) (rNonce_run x.ctr ww hU2.out) (fun w' hb => hK _ _ ⟨touch_below hb, rfl⟩)⟩),
            (fun Q aq ww own hS hBg fr kn => .inl ⟨trivial, fun K hK => wp_value (exec_fop (k := 6) rfl fr.2.1 (by decide)) (hK _ _ ⟨Touch.refl _ _, rfl⟩)⟩),
            (fun Q aq ww own hS hBg fr kn => .inl ⟨trivial, fun K hK => wp_value (exec_ld rfl kn.1 (load_str (op_t (H7.out ww hS)))) (hK _ _ ⟨Touch.refl _ _, rfl⟩)⟩),
            (fun Q aq ww own hS hBg fr kn => .inl ⟨trivial, fun K hK => stepc enterRSeal9 rfl (args4 kn.1 kn.2.1 kn.2.2.1 rfl) (rSeal_run (pkr x.nn) (nonN x.ctr) x.text ByteArray.empty ww (pkr_b x.nn) nonN_b hT2.out (by decide)) (fun w' hb => hK _ _ ⟨touch_below hb, rfl⟩)⟩),
            (fun Q aq ww own hS hBg fr kn => .inl ⟨trivial, fun K hK => wp_value (exec_assign rfl kn.1) (hK _ _ ⟨Touch.refl _ _, rfl⟩)⟩),
            trivial⟩ ?_
      intro vs own wF hBF hsz kn inj
      have e23 : vs 23 = .string (boxT (pkr x.nn) (nonN x.ctr) x.text ByteArray.empty) := kn.1
      have hF := hE.below hBF
      have qF := H7.out wF hBF
      have q9F := H9.out wF hBF
      clear kn inj hsz hE qE q7 H7 H9 hBF
      simp only [putAll, Act.put, List.setIfInBounds_toArray, List.set_cons_zero, List.set_cons_succ, e23]
      clear e23
      have hsz : (boxT (pkr x.nn) (nonN x.ctr) x.text ByteArray.empty).size = x.text.size + 16 := boxT_size _ _ _ _
      generalize (boxT (pkr x.nn) (nonN x.ctr) x.text ByteArray.empty) = BB at *
      have co := op_o qF
      go_upto_if 154 with fail
      go_cut [23] (fun s23 wx => ∃ T : ByteArray, s23 = .string T ∧ T.size ≤ 140737488355328 ∧ Hid (BoSt w0 sb rb (fun k => k = g7 ∨ k = g9) wx σ σ ∧ SAt wx g7 39 7 (opV x) ∧ SAt wx g9 30 66 (paiV (pks x.nn) (pkr x.nn) (ploc x.nn) (pfar x.nn))))
      case first =>
        cases hodd : x.odd
        · rw [hodd] at co
          as_aux_lemma =>
            go_wp2_with fail
            go_meet
            case rel => exact ⟨BB, rfl, by omega, Hid.mk ⟨hF, qF, q9F⟩⟩
        · rw [hodd] at co
          obtain ⟨nb, hnb⟩ : ∃ nb : Nat, BB.size = nb + 1 := ⟨BB.size - 1, by omega⟩
          have hnl : nb < BB.size := by omega
          have hnl2 : nb ≤ BB.size := by omega
          have HN : Hid (nb = BB.size - 1) := Hid.mk (by omega)
          as_aux_lemma =>
            go_wp2_with fail
            refine wp_region_cut 13 rfl (by kernel_rfl) (any_steps (Below wF.heap.size wF) (fun v v' => Below v.heap.size v v') (fun i v v0 => match i with | 0 => v = .string BB | 1 => v = .string BB | 2 => v = .int .i64 (BB.size : Int) | 3 => v = .int .i64 (nb : Int) | 4 => v = .string (BB.extract 0 nb) | 5 => v = .string BB | 6 => v = .string BB | 7 => v = .int .i64 (BB.size : Int) | 8 => v = .int .i64 (nb : Int) | 9 => v = .int .u8 (txt BB nb) | 10 => v = .int .u8 (xorw (txt BB nb) 1) | 11 => ∃ g8, v = .slice (some ⟨g8, 0, none⟩) 1 1 ∧ v0.cell? ⟨g8, 0, none⟩ = some (.int .u8 (xorw (txt BB nb) 1)) | 12 => v = .string (mkS 1 (fun _ => (xorw (txt BB nb) 1))) | _ => True)
                [155, 156, 157, 158, 159, 160, 161, 162, 163, 164, 165, 166, 167]
                [(23, .string BB)]
                [[], [], [1], [2], [0, 3], [], [], [6], [7], [5, 8], [9], [10], [11]]
                (by kernel_rfl) ⟨rfl, trivial⟩ (Below.drew (Below.refl _ _)) (fun v v' h hb => h.trans (hb.mono h.size)) ?_
                ⟨
                  (fun Q a1 ww hS fr kn => ⟨trivial, fun K hK => wp_value (exec_move rfl fr.1) (hK _ _ rfl (Below.refl _ _))⟩),
                  (fun Q a1 ww hS fr kn => ⟨trivial, fun K hK => wp_value (exec_move rfl fr.1) (hK _ _ rfl (Below.refl _ _))⟩),
                  (fun Q a1 ww hS fr kn => ⟨trivial, fun K hK => wp_value (exec_lenS rfl kn.1) (hK _ _ rfl (Below.refl _ _))⟩),
                  (fun Q a1 ww hS fr kn => ⟨trivial, fun K hK => wp_value (exec_less1 rfl kn.1 rfl hnb) (hK _ _ rfl (Below.refl _ _))⟩),
                  (fun Q a1 ww hS fr kn => ⟨trivial, fun K hK => wp_value (exec_slH rfl kn.1 kn.2.1 (strH BB nb ww hnl2)) (hK _ _ rfl (Below.refl _ _))⟩),
                  (fun Q a1 ww hS fr kn => ⟨trivial, fun K hK => wp_value (exec_move rfl fr.1) (hK _ _ rfl (Below.refl _ _))⟩),
                  (fun Q a1 ww hS fr kn => ⟨trivial, fun K hK => wp_value (exec_move rfl fr.1) (hK _ _ rfl (Below.refl _ _))⟩),
                  (fun Q a1 ww hS fr kn => ⟨trivial, fun K hK => wp_value (exec_lenS rfl kn.1) (hK _ _ rfl (Below.refl _ _))⟩),
                  (fun Q a1 ww hS fr kn => ⟨trivial, fun K hK => wp_value (exec_less1 rfl kn.1 rfl hnb) (hK _ _ rfl (Below.refl _ _))⟩),
                  (fun Q a1 ww hS fr kn => ⟨trivial, fun K hK => wp_value (exec_ixs (j := nb) rfl kn.1 kn.2.1 hnl) (hK _ _ rfl (Below.refl _ _))⟩),
                  (fun Q a1 ww hS fr kn => ⟨trivial, fun K hK => wp_value (exec_xor8 rfl kn.1 rfl (txt_b _ _) (by decide)) (hK _ _ rfl (Below.refl _ _))⟩),
                  (fun Q a1 ww hS fr kn => ⟨trivial, fun K hK => act_bs8 rfl kn.1 (fun g' w' hc hb => hK _ _ ⟨g', rfl, hc⟩ hb)⟩),
                  (fun Q a1 ww hS fr kn => ⟨trivial, fun K hK => (by obtain ⟨g8, e8, hc8⟩ := kn.1; exact wp_value (exec_conv rfl e8 (str_back9 g8 1 ww (fun _ => (xorw (txt BB nb) 1)) (fun j hj => xorw_b (txt_b _ _) (by decide)) (fun j hj => by obtain rfl : j = 0 := (by omega); exact hc8))) (hK _ _ rfl (Below.refl _ _)))⟩),
                  trivial⟩ ?_)
            · intro i v u' u'' hh hb
              match i with
              | 0 | 1 | 2 | 3 | 4 | 5 | 6 | 7 | 8 | 9 | 10 | 12 => exact hh
              | 11 => obtain ⟨g8, e8, hc8⟩ := hh; exact ⟨g8, e8, by rw [hb.cell (p := ⟨g8, 0, none⟩) (World.block_lt_of_cell? _ _ hc8)]; exact hc8⟩
              | n + 13 => trivial
            intro vs wG hSG hkG
            have e159 : vs 159 = .string (BB.extract 0 nb) := hkG 4 (by decide)
            have e167 : vs 167 = .string (mkS 1 (fun _ => (xorw (txt BB nb) 1))) := hkG 12 (by decide)
            have HR : Hid (BoSt w0 sb rb (fun k => k = g7 ∨ k = g9) wG σ σ ∧ SAt wG g7 39 7 (opV x) ∧ SAt wG g9 30 66 (paiV (pks x.nn) (pkr x.nn) (ploc x.nn) (pfar x.nn))) := Hid.mk ⟨hF.below hSG, SAt.kept qF hSG, SAt.kept q9F hSG⟩
            have hz9 : (BB.extract 0 nb).size + (mkS 1 (fun _ => (xorw (txt BB nb) 1))).size ≤ 140737488355328 := by rw [mkS_size, ByteArray.size_extract]; omega
            clear hkG hSG hF qF q9F co
            show wpList Tryz.prog _ _ (_ :: _ :: []) _ _
            simp only [putAll, Act.put, List.setIfInBounds_toArray, List.set_cons_zero, List.set_cons_succ, e159, e167]
            clear e159 e167
            generalize BB.extract 0 nb = B1 at *
            generalize mkS 1 (fun _ => (xorw (txt BB nb) 1)) = B2 at *
            go_wp2_with (refine wl_value rfl (exec_catS rfl (by rfl) (by rfl) (by omega)) ?_)
            go_meet
            case rel => exact ⟨B1 ++ B2, rfl, by rw [ByteArray.size_append]; omega, HR⟩
      case rest =>
        obtain ⟨T, rfl, hTz, HR⟩ := hcut
        obtain ⟨hG, qG, q9G⟩ := HR.out
        clear HR hF qF q9F co
        have cl := pai_l q9G
        have cc := op_c qG
        have l7 := SAt.lt qG
        have l9 := SAt.lt q9G
        have HC : Hid (Calls Tryz.prog 23 #[.pointer (some ⟨sb, 0, none⟩), .int .i64 now, .int .u32 (ploc x.nn), .int .u64 x.ctr, .string T] wc fun en w' => en = .returned (.tuple #[.string (openS σ now (ploc x.nn) x.ctr T).1.1, .int .i64 (openS σ now (ploc x.nn) x.ctr T).1.2.1, .int .i64 (openS σ now (ploc x.nn) x.ctr T).1.2.2]) ∧ BoSt w0 sb rb (fun k => k = g7 ∨ k = g9) w' (openS σ now (ploc x.nn) x.ctr T).2 σ ∧ Kept (fun k => k = g7 ∨ k = g9) wc w') := Hid.mk (hG.callC (P := fun en _ => en = .returned (.tuple #[.string (openS σ now (ploc x.nn) x.ctr T).1.1, .int .i64 (openS σ now (ploc x.nn) x.ctr T).1.2.1, .int .i64 (openS σ now (ploc x.nn) x.ctr T).1.2.2])) (fun k e => by rcases e with rfl | rfl <;> assumption) (fun S hS => Open_run9 now (ploc x.nn) x.ctr T hS ok (by omega) (by omega) hU hTz))
        have HD : Hid (∀ v, BoSt w0 sb rb (fun k => k = g7 ∨ k = g9) v (openS σ now (ploc x.nn) x.ctr T).2 σ → (∀ k, (k = g7 ∨ k = g9) → k < v.heap.size) → Calls Tryz.prog 24 #[.pointer (some ⟨rb, 0, none⟩), .int .i64 now, .int .u32 (ploc x.nn), .int .u64 x.ctr, .string T] v fun en w' => en = .returned (.tuple #[.string (openS σ now (ploc x.nn) x.ctr T).1.1, .int .i64 (openS σ now (ploc x.nn) x.ctr T).1.2.1, .int .i64 (openS σ now (ploc x.nn) x.ctr T).1.2.2]) ∧ BoSt w0 sb rb (fun k => k = g7 ∨ k = g9) w' (openS σ now (ploc x.nn) x.ctr T).2 (openS σ now (ploc x.nn) x.ctr T).2 ∧ Kept (fun k => k = g7 ∨ k = g9) v w') := Hid.mk (fun v hv hl => hv.callD (P := fun en _ => en = .returned (.tuple #[.string (openS σ now (ploc x.nn) x.ctr T).1.1, .int .i64 (openS σ now (ploc x.nn) x.ctr T).1.2.1, .int .i64 (openS σ now (ploc x.nn) x.ctr T).1.2.2])) hl (fun S hS => rOpen_run9 now (ploc x.nn) x.ctr T hS ok (by omega) (by omega) hU hTz))
        have HOK : Hid (SesOk (M + 1) (openS σ now (ploc x.nn) x.ctr T).2 ∧ (openS σ now (ploc x.nn) x.ctr T).2.t ≤ max σ.t now) := Hid.mk ⟨ok.open (by omega) hU, by rw [open_t]; exact Int.le_refl _⟩
        clear ok
        generalize (openS σ now (ploc x.nn) x.ctr T).2 = σ1 at *
        generalize (openS σ now (ploc x.nn) x.ctr T).1.1 = rx at *
        generalize (openS σ now (ploc x.nn) x.ctr T).1.2.1 = rn at *
        generalize (openS σ now (ploc x.nn) x.ctr T).1.2.2 = re at *
        as_aux_lemma =>
          go_wp2_with fail
          refine HC.out.mono ?_
          rintro e wH ⟨rfl, hH, kH⟩
          have qH := qG.block (kH.2 g7 l7 (.inl rfl))
          have q9H := q9G.block (kH.2 g9 l9 (.inr rfl))
          have cl2 := pai_l q9H
          have cc2 := op_c qH
          have l7' := SAt.lt qH
          have l9' := SAt.lt q9H
          clear HC hG qG q9G cl cc l7 l9 kH
          go_wp2_with fail
          refine (HD.out wH hH (fun k e => by rcases e with rfl | rfl <;> assumption)).mono ?_
          rintro e wI ⟨rfl, hI, kI⟩
          have HX := Hid.mk (hI.sub (N' := fun _ => False) (fun k e => e.elim))
          clear HD hH qH q9H cl2 cc2 hI kI
          go_wp2_with (refine wl_value rfl (exec_eqS (s := rx) rfl (by rfl) (by rfl)) ?_)
          go_ret
          exact ⟨rfl, σ1, HX.out, HOK.out.1, HOK.out.2⟩
end Go.Proofs.YtbkbcfimpaolmaaGreat
