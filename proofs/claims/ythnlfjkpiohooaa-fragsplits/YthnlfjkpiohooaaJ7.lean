/-
  Own text. Whether the pieces of a heap reach from first to last; the packet that they make.
-/
import Derived.Test.YthnlfjkpiohooaaJ6
namespace Go.Proofs.Ythnlfjkpiohooaa
open Go.RowKit Go.Proofs
set_option maxRecDepth 100000
theorem exec_ixL {a : Act} {o : Oper} {w : World} {x y : Operand} (ho : o.op = .indexAddr 87 x y) {p : Addr} {m c : Nat} (hx : a.eval x = .slice (some p) (m + 1) c) (hy : a.eval y = .int .i64 (m : Int)) : (execOp a.eval o).run Try.prog w = .ok (.value (.pointer (some (p.add (3 * m))))) w := exec_ixQ ho hx hy (Nat.lt_succ_self m)
set_option maxHeartbeats 16000000 in
theorem full_run {g B : Nat} {born num : Int} {hd : Pk} {hv : Value} {p : Addr} {cap m : Nat} {S : List Pk} (w : World) (h : SAt w g 89 49 (hpV born num hd hv (.slice (some p) (m + 1) cap))) (hr : PRow w B (.slice (some p) S.length cap) S) (hl : S.length = m + 1) (hm : m < 64) (hS : ∀ Q ∈ S, PcOk Q) : Calls Try.prog 61 #[.pointer (some ⟨g, 0, none⟩)] w fun e w' => e = .returned (.bool (fullS S 0 && !moreS S)) ∧ Below w.heap.size w w' := by
  have HR := Hid.mk hr
  have HN := Hid.mk hl
  have HH := Hid.mk h
  have hne : S ≠ [] := by intro e; rw [e] at hl; cases hl
  have hgl : S.getLastD zeroP = S.getD m zeroP := by rw [List.getLastD_eq_getLast?, List.getLast?_eq_getElem?, hl, List.getD_eq_getElem?_getD]; rfl
  have HE : Hid (moreS S = (S.getD m zeroP).more) := Hid.mk (by rw [moreS_last hne, hgl])
  have HPC := Hid.mk hS
  have HF0 : Hid (fullS S 0 = fullS (S.drop 0) 0) := Hid.mk (by rw [List.drop_zero])
  have HFE : Hid (∀ e, fullS (S.drop (m + 1)) e = true) := Hid.mk (fun e => by rw [← hl, List.drop_length]; rfl)
  clear hr hl hS hne hgl
  generalize fullS S 0 = r at *
  generalize moreS S = M at *
  have c48 := hp_ps h
  go_enter Try.func61, Try.ntmps61
  go_wp2_with (refine wl_value rfl (exec_fhp 3 (by decide) rfl rfl) ?_; refine Hid.out ?_)
  refine Hid.mk ?_
  go_wp2_with (refine wl_value rfl (exec_ld rfl rfl (ldQ c48)) ?_; refine Hid.out ?_)
  refine Hid.mk ?_
  go_wp2_with (refine wl_value rfl (exec_lenQ rfl rfl) ?_; refine Hid.out ?_)
  refine Hid.mk ?_
  clear c48 h
  go_wp2_with fail
  go_loopg [3, 11] (m + 1) (fun gm s3 s11 z => ∃ (i : Nat) (e : Int), Hid (gm + i = m + 1) ∧ s3 = .int .i64 e ∧ s11 = .int .i64 (i : Int) ∧ Hid (r = fullS (S.drop i) e) ∧ Hid (Below w.heap.size w z))
  case atStart => exact ⟨0, 0, Hid.mk rfl, rfl, rfl, HF0, Hid.mk (Below.refl _ _)⟩
  case round =>
    obtain ⟨i, e, HI, rfl, rfl, HRi, HBz⟩ := hrel
    have him : (i : Int) < 66 := by have := HI.out; omega
    by_cases hil : i < m + 1
    · have hili : (i : Int) < ((m + 1 : Nat) : Int) := by omega
      have hili2 : (i : Int) < (m : Int) + 1 := by omega
      obtain ⟨P, hx⟩ : ∃ P, S[i]? = some P := ⟨_, List.getElem?_eq_getElem (by rw [HN.out]; exact hil)⟩
      have HST := Hid.mk (fullS_step hx e)
      have HGD := Hid.mk (getD_of hx)
      have HPR := Hid.mk (pc_reach (HPC.out P (List.mem_of_getElem? hx)))
      clear hx
      have HLD : Hid ((Instr.loadAt 82 (.pointer (some (p.add (3 * i))))).run Try.prog wr = .ok (.agg (SC 3 (pcV P))) wr) := Hid.mk (by rw [← HGD.out]; exact row_ld (prow_kept HR.out HBz.out) (by rw [HN.out]; exact hil))
      go_wp2_with (refine wl_value rfl (exec_ixQ (i := i) rfl rfl rfl hil) ?_; refine Hid.out ?_)
      refine Hid.mk ?_
      go_wp2_with (refine wl_value rfl (exec_ld rfl rfl HLD.out) ?_; refine Hid.out ?_)
      refine Hid.mk ?_
      go_wp2_with (refine wl_alPc rfl rfl ?_; intro g5 w5 hg5 s5 hB5; refine Hid.out ?_)
      refine Hid.mk ?_
      go_wp2_with (refine st_stO (V := pcV P) (g := g5) rfl rfl isPc (pcV_one P) s5 rfl rfl ?_; intro w6 s6 ho6; refine Hid.out ?_)
      refine Hid.mk ?_
      have HB6 : Hid (Below w.heap.size w w6) := Hid.mk ((HBz.out.trans (hB5.mono HBz.out.size)).trans (ho6.below (Nat.le_trans HBz.out.size hg5)))
      clear s5 hB5 ho6
      go_wp2_with (refine wl_value rfl (exec_fpcG 0 (by decide) rfl rfl) ?_; refine Hid.out ?_)
      refine Hid.mk ?_
      go_wp2_with (refine wl_value rfl (exec_ld rfl rfl (ldP (pc_off s6))) ?_; refine Hid.out ?_)
      refine Hid.mk ?_
      go_wp2_with (refine wl_value rfl (cmp_ne (m := P.off) (n := e) rfl rfl rfl) ?_; refine Hid.out ?_)
      refine Hid.mk ?_
      by_cases hpe : P.off = e
      · rw [decide_eq_true hpe]
        have HR2 : Hid (r = fullS (S.drop (i + 1)) (enP P)) := Hid.mk (by rw [HRi.out, HST.out, decide_eq_true hpe]; rfl)
        clear hpe
        go_wp2_with (refine wl_value rfl (look_st rfl isPc s6 rfl) ?_; refine Hid.out ?_)
        refine Hid.mk ?_
        go_wp2_with (go_at_call 56; refine (reach_run P _ HPR.out).mono ?_; rintro e' w7 ⟨rfl, hB7⟩; refine Hid.out ?_)
        refine Hid.mk ?_
        have HB7 : Hid (Below w.heap.size w w7) := Hid.mk (HB6.out.trans (hB7.mono HB6.out.size))
        clear hB7 s6
        go_wp2_with fail
        go_roundg (m + 1 - (i + 1))
        case rel => exact ⟨i + 1, _, Hid.mk (by omega), rfl, by go_num, HR2, HB7⟩
        case measure => have := HI.out; omega
      · rw [decide_eq_false hpe]
        have hrf : r = false := by rw [HRi.out, HST.out, decide_eq_false hpe]; rfl
        subst hrf
        go_wp2_with fail
        go_ret
        exact ⟨rfl, HB6.out⟩
    · have hi2 : i = m + 1 := by have := HI.out; omega
      subst hi2
      have hrt : r = true := by rw [HRi.out]; exact HFE.out e
      subst hrt
      have hz := HH.out.kept HBz.out
      have HM : Hid (∀ z, Below wr.heap.size wr z → z.cell? ((p.add (3 * m)).add 1) = some (.bool M)) := Hid.mk (fun z hz => by
        have := row_cell (prow_kept (prow_kept HR.out HBz.out) hz) (i := m) (f := 1) (by rw [HN.out]; omega) (by decide)
        rw [HE.out, Addr.add_add]
        exact this)
      go_upto_region 9 with fail
      refine wp_region3 (Below wr.heap.size wr) wr.heap.size
          ([] : List (Nat × Cont))
          [kv (.pointer (some ⟨g, 0, none⟩)), kv (.pointer (some ⟨g, 0, none⟩)), kv (.pointer (some ⟨g, 48, none⟩)), kv (.slice (some p) (m + 1) cap), kv (.pointer (some ⟨g, 0, none⟩)), kv (.pointer (some ⟨g, 0, none⟩)), kv (.pointer (some ⟨g, 48, none⟩)), kv (.slice (some p) (m + 1) cap), kv (.int .i64 ((m + 1 : Nat) : Int)), kv (.int .i64 (m : Int)), kv (.pointer (some (p.add (3 * m)))), kv (.pointer (some ((p.add (3 * m)).add 1))), kv (.bool M), kv (.bool (!M)), kv (.bool (!M))]
          [.none, .none, .none, .none, .none, .none, .none, .none, .none, .none, .none, .none, .none, .none, .none]
          [some 22, some 23, some 24, some 25, some 26, some 27, some 28, some 29, some 30, some 31, some 32, some 33, some 34, some 35, some 2]
          [(0, .pointer (some ⟨g, 0, none⟩))]
          [[], [.slot 0], [.slot 1], [.slot 2], [], [.slot 4], [.slot 5], [.slot 6], [.slot 7], [.slot 8], [.slot 3, .slot 9], [.slot 10], [.slot 11], [.slot 12], [.slot 13]]
          [.slot 14] [22, 23, 24, 25, 26, 27, 28, 29, 30, 31, 32, 33, 34, 35, 2]
          rfl (by kernel_rfl) ⟨rfl, trivial⟩ ((Below.refl _ wr).drew) (Nat.le_refl _) trivial trivial (below_GcW (Nat.le_refl _))
          ⟨
          (fun QQ aa ww own hS hBg fr kn => .inl ⟨trivial, fun K hK => wp_value (exec_move rfl fr.1) (hK _ _ ⟨Touch.refl _ _, rfl⟩)⟩),
          (fun QQ aa ww own hS hBg fr kn => .inl ⟨trivial, fun K hK => wp_value (exec_nilc rfl kn.1) (hK _ _ ⟨Touch.refl _ _, rfl⟩)⟩),
          (fun QQ aa ww own hS hBg fr kn => .inl ⟨trivial, fun K hK => wp_value (exec_fhp 3 (by decide) rfl kn.1) (hK _ _ ⟨Touch.refl _ _, rfl⟩)⟩),
          (fun QQ aa ww own hS hBg fr kn => .inl ⟨trivial, fun K hK => wp_value (exec_ld rfl kn.1 (ldQ (hp_ps (SAt.kept hz hS)))) (hK _ _ ⟨Touch.refl _ _, rfl⟩)⟩),
          (fun QQ aa ww own hS hBg fr kn => .inl ⟨trivial, fun K hK => wp_value (exec_move rfl fr.1) (hK _ _ ⟨Touch.refl _ _, rfl⟩)⟩),
          (fun QQ aa ww own hS hBg fr kn => .inl ⟨trivial, fun K hK => wp_value (exec_nilc rfl kn.1) (hK _ _ ⟨Touch.refl _ _, rfl⟩)⟩),
          (fun QQ aa ww own hS hBg fr kn => .inl ⟨trivial, fun K hK => wp_value (exec_fhp 3 (by decide) rfl kn.1) (hK _ _ ⟨Touch.refl _ _, rfl⟩)⟩),
          (fun QQ aa ww own hS hBg fr kn => .inl ⟨trivial, fun K hK => wp_value (exec_ld rfl kn.1 (ldQ (hp_ps (SAt.kept hz hS)))) (hK _ _ ⟨Touch.refl _ _, rfl⟩)⟩),
          (fun QQ aa ww own hS hBg fr kn => .inl ⟨trivial, fun K hK => wp_value (exec_lenQ rfl kn.1) (hK _ _ ⟨Touch.refl _ _, rfl⟩)⟩),
          (fun QQ aa ww own hS hBg fr kn => .inl ⟨trivial, fun K hK => wp_value (exec_subW (i := m + 1) (m := 1) (q := m) rfl kn.1 rfl (by omega) (by omega)) (hK _ _ ⟨Touch.refl _ _, rfl⟩)⟩),
          (fun QQ aa ww own hS hBg fr kn => .inl ⟨trivial, fun K hK => wp_value (exec_ixL rfl kn.1 kn.2.1) (hK _ _ ⟨Touch.refl _ _, rfl⟩)⟩),
          (fun QQ aa ww own hS hBg fr kn => .inl ⟨trivial, fun K hK => wp_value (exec_fpc 1 (by decide) rfl kn.1) (hK _ _ ⟨Touch.refl _ _, rfl⟩)⟩),
          (fun QQ aa ww own hS hBg fr kn => .inl ⟨trivial, fun K hK => wp_value (exec_ld rfl kn.1 (ldPb (HM.out _ hS))) (hK _ _ ⟨Touch.refl _ _, rfl⟩)⟩),
          (fun QQ aa ww own hS hBg fr kn => .inl ⟨trivial, fun K hK => wp_value (exec_notB rfl kn.1) (hK _ _ ⟨Touch.refl _ _, rfl⟩)⟩),
          (fun QQ aa ww own hS hBg fr kn => .inl ⟨trivial, fun K hK => wp_value (exec_assign rfl kn.1) (hK _ _ ⟨Touch.refl _ _, rfl⟩)⟩),
          trivial⟩ ?_
      intro vs own z2 hB2 hsz kn inj
      have e2 : vs 2 = .bool (!M) := kn.1
      clear kn inj hsz
      simp only [putAll, Act.put, List.setIfInBounds_toArray, List.set_cons_zero, List.set_cons_succ, e2]
      clear e2
      go_wp2_with fail
      go_ret
      exact ⟨by rw [Bool.true_and]; rfl, HBz.out.trans (hB2.mono HBz.out.size)⟩
theorem en_full (args : Array Value) (w : World) : (callFunc 61 args).run Try.prog w = .ok (.enter 61 args) w := by kernel_rfl
def IsB (B b : Nat) (s : ByteArray) (w : World) : Prop := Lib.IsBuilder 101 5 B b (Lib.byteCells s.data.toList) w
theorem IsB.kept {B b : Nat} {s : ByteArray} {w w' : World} (h : IsB B b s w) (hb : Below w.heap.size w w') : IsB B b s w' := by
  rcases h with ⟨hB, v, hk, ho, hn⟩ | ⟨hB, v, hk, ho, hn⟩
  · exact .inl ⟨hB, v, (hb.block b (heap_lt hk)).trans hk, ownT_kept ho hb, hn⟩
  · exact .inr ⟨hB, v, (hb.block b (heap_lt hk)).trans hk, ownT_kept ho hb, hn⟩
theorem IsB.base {B b : Nat} {s : ByteArray} {w : World} (h : IsB B b s w) : B ≤ b ∧ b < w.heap.size := by
  rcases h with ⟨hB, v, hk, _⟩ | ⟨hB, v, hk, _⟩
  · exact ⟨hB, heap_lt hk⟩
  · exact ⟨hB, heap_lt hk⟩
theorem wl_alB {ops : Array Oper} {rest : List Oper} {o : Oper} {a : Act} {w : World} {Q : Exit → Act → World → Prop} (ho : o.op = .alloc 101) (hgd : Region.wanted o (yielded ops a.tmps) = true)
    (h : ∀ b w', w.heap.size ≤ b → IsB w.heap.size b ByteArray.empty w' → Below w.heap.size w w' → wpList Try.prog ops Q rest (a.put o.dst (.pointer (some ⟨b, 0, none⟩))) w') : wpList Try.prog ops Q (o :: rest) a w := by
  refine wl_act hgd ?_
  have hz : (zeroValue 101).run Try.prog w = .ok (.agg #[.pointer none, .slice none 0 0]) w := by kernel_rfl
  unfold Oper.wp execOp
  simp only [ho]
  simp [go_sem, hz]
  exact h _ _ (Nat.le_refl _) (Lib.fresh_isBuilder 101 5 w) ((Below.refl _ _).alloc (Nat.le_refl _) _)
theorem app_cells (s t : ByteArray) : Lib.byteCells s.data.toList ++ Lib.strCells t = Lib.byteCells (s ++ t).data.toList := by
  rw [Lib.strCells_eq]
  unfold Lib.byteCells
  rw [← List.map_append, ByteArray.data_append, Array.toList_append]
theorem writeS_run (B b : Nat) (s t : ByteArray) (w : World) (h : IsB B b s w) (hl : s.size + t.size ≤ 140737488355328) (hB : B ≤ w.heap.size) : Calls Try.prog 74 #[.pointer (some ⟨b, 0, none⟩), .string t] w fun e w' => e = .returned (.tuple #[.int .i64 t.size, .nilIface]) ∧ IsB B b (s ++ t) w' ∧ Below B w w' := by
  refine (Any.Builder_WriteString lays166 Extra_166 B b _ t w h (by unfold Lib.byteCells; rw [List.length_map]; show s.data.toList.length + t.size ≤ _; rw [Array.length_toList]; exact hl) hB).mono ?_
  rintro e w' ⟨rfl, h1, h2⟩
  exact ⟨rfl, .inr (by rw [← app_cells]; exact h1), h2⟩
theorem stringB_run (B b : Nat) (s : ByteArray) (w : World) (h : IsB B b s w) (hB : B ≤ w.heap.size) : Calls Try.prog 75 #[.pointer (some ⟨b, 0, none⟩)] w fun e w' => e = .returned (.string s) ∧ Below B w w' := by
  refine (Any.Builder_String_any lays169 Builder_Extra_169 B b s.data.toList w h hB).mono ?_
  rintro e w' ⟨rfl, h2⟩
  exact ⟨rfl, h2⟩
theorem freeze_only (w : World) (g n : Nat) : Only g w (w.freeze ⟨g, 0, none⟩ n) := by
  unfold World.freeze
  split
  · exact Only.refl _ _
  · exact ⟨rfl, rfl, rfl, by simp, fun k hk => by simp only [Array.getElem?_modify]; rw [if_neg (fun e => hk e.symm)]⟩
set_option maxHeartbeats 2000000 in
theorem stringB_only (B b : Nat) (s : ByteArray) (z0 w : World) (h : IsB B b s z0) (hb : Below z0.heap.size z0 w) (hs : s.size ≠ 0) : Calls Try.prog 75 #[.pointer (some ⟨b, 0, none⟩)] w fun e w' => e = .returned (.string s) ∧ ∃ g, B ≤ g ∧ g < z0.heap.size ∧ Touch (fun k => k = g) w w' := by
  obtain ⟨l, hl⟩ : ∃ l, s.data.toList = l := ⟨_, rfl⟩
  have hsl : s = ⟨l.toArray⟩ := by rw [← hl]
  have hlz : l.length ≠ 0 := by rw [← hl, Array.length_toList]; exact hs
  have h0 : l ≠ [] := by intro e; rw [e] at hlz; exact hlz rfl
  have hz := h
  replace h := h.kept hb
  unfold IsB at h hz
  rw [hl] at h hz
  obtain ⟨p, hB, v, hbk, hown, hne⟩ : ∃ p, Lib.BuilderAt 101 5 B b p (Lib.byteCells l) z0 := by
    rcases hz with h | h
    · exact ⟨_, h⟩
    · exact ⟨_, h⟩
  rw [Lib.byteCells_length] at hown
  obtain ⟨g, cap, cur, rfl, hbg, hg, hnc, hcm, hcs, htake⟩ : ∃ g cap cur, v = .slice (some ⟨g, 0, none⟩) l.length cap ∧ B ≤ g ∧ z0.heap[g]? = some (.cells cur 5 (0, 0)) ∧ l.length ≤ cap ∧ cap ≤ maxLen ∧ cur.size = cap * 1 ∧ cur.toList.take (l.length * 1) = Lib.byteCells l := by
    rcases hown.2 with ⟨_, hz⟩ | ⟨g, cap, cur, hv, r⟩
    · exact absurd hz hlz
    · exact ⟨g, cap, cur, hv, r⟩
  have hgz := heap_lt hg
  replace hown := ownT_kept hown hb
  replace hg := (hb.block g hgz).trans hg
  replace hbk := (hb.block b (heap_lt hbk)).trans hbk
  have c1 : w.drew.cell? ⟨b, 1, none⟩ = some (.slice (some ⟨g, 0, none⟩) l.length cap) := by
    have : w.drew.heap[b]? = some (.cells #[p, .slice (some ⟨g, 0, none⟩) l.length cap] 101 (0, 0)) := hbk
    rw [Lib.cell_of_heap this]; rfl
  have hSD : (Builtin.unsafeSliceData_ #[74] 111 #[.slice (some ⟨g, 0, none⟩) l.length cap]).run Try.prog w.drew = .ok (.pointer (some ⟨g, 0, none⟩)) w.drew :=
    Lib.run_unsafeSliceData_row _ _ _ _ _ _ (by omega)
  have hUS : (Builtin.unsafeString_ #[111, 3] 9 #[.pointer (some ⟨g, 0, none⟩), .int .i64 l.length]).run Try.prog w.drew = .ok (.string ⟨l.toArray⟩) (w.drew.freeze ⟨g, 0, none⟩ l.length) := by
    refine Lib.run_unsafeString_row w.drew 111 3 9 5 Try.underlying111 Builder_Extra_169.cellsByte g cur.size (by have hg' : w.drew.heap[g]? = some (.cells cur 5 (0, 0)) := hg; simp [World.shape?, hg']) l h0 (by omega) (by unfold maxLen at hcm; omega) ?_
    intro j x hx
    have := hown.cells (g := g) rfl j (.int .u8 x.toNat) (by simp [Lib.byteCells, hx])
    exact this
  have mixed : Try.prog.follows .mixedOrders = true := lays169.mixed
  rw [hsl]
  clear hown hbk hg hcs htake h hz hne hsl
  go_enter Try.func75, Try.ntmps75
  go_wp2_with fail
  go_region_o
  all_goals (go_wp2_with fail; go_ret; exact ⟨rfl, g, hbg, hgz, ⟨(freeze_only w.drew g l.length).os, (freeze_only w.drew g l.length).tape, (freeze_only w.drew g l.length).output, by rw [(freeze_only w.drew g l.length).size]; exact Nat.le_refl _, fun k hk hn => (freeze_only w.drew g l.length).block k hn⟩⟩)
theorem joinS_step : ∀ {S : List Pk} {i : Nat} {P : Pk}, S[i]? = some P → joinS (S.take (i + 1)) = joinS (S.take i) ++ P.pay
  | [], _, _, h => by simp at h
  | x :: S, 0, P, h => by
    simp at h
    subst h
    show x.pay ++ ByteArray.empty = ByteArray.empty ++ x.pay
    rw [ByteArray.append_empty, ByteArray.empty_append]
  | x :: S, i + 1, P, h => by
    have := joinS_step (S := S) (i := i) (P := P) (by simpa using h)
    show x.pay ++ joinS (S.take (i + 1)) = x.pay ++ joinS (S.take i) ++ P.pay
    rw [this, ByteArray.append_assoc]
theorem joinS_size : ∀ S : List Pk, (joinS S).size = heldL S
  | [] => rfl
  | x :: S => by
    show (x.pay ++ joinS S).size = x.pay.size + heldL S
    rw [ByteArray.size_append, joinS_size S]
set_option maxHeartbeats 16000000 in
theorem packet_run {g B : Nat} {born num : Int} {hd : Pk} {hv : Value} {p : Addr} {cap m : Nat} {S : List Pk} (w : World) (h : SAt w g 89 49 (hpV born num hd hv (.slice (some p) (m + 1) cap))) (hr : PRow w B (.slice (some p) S.length cap) S) (hl : S.length = m + 1) (hm : m < 64) (hS : heldL S ≤ 65535) (hnz : heldL S ≠ 0) (hv1 : hv.oneCell' = true) : Calls Try.prog 63 #[.pointer (some ⟨g, 0, none⟩)] w fun e w' => e = .returned (.agg (SC 46 (pkV (withPay hd (joinS S)) hv))) ∧ Below w.heap.size w w' := by
  have HR := Hid.mk hr
  have HN := Hid.mk hl
  have HH := Hid.mk h
  have HSZ : Hid (∀ i, (joinS (S.take i)).size ≤ 65535) := Hid.mk (fun i => by rw [joinS_size]; exact Nat.le_trans (heldL_take S i) hS)
  have HNZ := Hid.mk hnz
  clear hnz
  have HJE : Hid (joinS (S.take (m + 1)) = joinS S) := Hid.mk (by rw [← hl, List.take_length])
  clear hr hl hS
  have hgl := heap_lt h
  go_enter Try.func63, Try.ntmps63
  go_wp2_with (refine wl_alO rfl rfl zeroPk ?_; intro g2 w2 hg2 s2 hB2; refine Hid.out ?_)
  refine Hid.mk ?_
  go_wp2_with (refine wl_alB rfl rfl ?_; intro b w3 hb3 hbu hB3; refine Hid.out ?_)
  refine Hid.mk ?_
  have s3 := s2.kept hB3
  have hBa := hB2.trans (hB3.mono hB2.size)
  have h3 := h.kept hBa
  have hg2l := heap_lt s2
  have c48 := hp_ps h3
  go_wp2_with (refine wl_value rfl (exec_fhp 3 (by decide) rfl rfl) ?_; refine Hid.out ?_)
  refine Hid.mk ?_
  go_wp2_with (refine wl_value rfl (exec_ld rfl rfl (ldQ c48)) ?_; refine Hid.out ?_)
  refine Hid.mk ?_
  go_wp2_with (refine wl_value rfl (exec_lenQ rfl rfl) ?_; refine Hid.out ?_)
  refine Hid.mk ?_
  have HS3 := Hid.mk s3
  have HB3 := Hid.mk hBa
  have HBU := Hid.mk hbu
  have hw23 := hB2.size
  clear c48 h h3 s2 s3 hB2 hB3 hbu hBa
  go_wp2_with fail
  go_loopg [12] (m + 1) (fun gm s12 z => ∃ i : Nat, Hid (gm + i = m + 1) ∧ s12 = .int .i64 (i : Int) ∧ Hid (IsB w2.heap.size b (joinS (S.take i)) z) ∧ Hid (Below w2.heap.size w3 z))
  case atStart => exact ⟨0, Hid.mk rfl, rfl, HBU, Hid.mk ((Below.refl w3.heap.size w3).mono (by have := HBU.out.base; omega))⟩
  case round =>
    obtain ⟨i, HI, rfl, HJ, HBz⟩ := hrel
    have him : (i : Int) < 66 := by have := HI.out; omega
    have HBw : Hid (Below w.heap.size w wr) := Hid.mk (HB3.out.trans (HBz.out.mono hw23))
    by_cases hil : i < m + 1
    · have hili : (i : Int) < ((m + 1 : Nat) : Int) := by omega
      have hili2 : (i : Int) < (m : Int) + 1 := by omega
      obtain ⟨P, hx⟩ : ∃ P, S[i]? = some P := ⟨_, List.getElem?_eq_getElem (by rw [HN.out]; exact hil)⟩
      have HST := Hid.mk (joinS_step hx)
      have HGD := Hid.mk (getD_of hx)
      clear hx
      have HLD : Hid ((Instr.loadAt 82 (.pointer (some (p.add (3 * i))))).run Try.prog wr = .ok (.agg (SC 3 (pcV P))) wr) := Hid.mk (by rw [← HGD.out]; exact row_ld (prow_kept HR.out HBw.out) (by rw [HN.out]; exact hil))
      go_wp2_with (refine wl_value rfl (exec_ixQ (i := i) rfl rfl rfl hil) ?_; refine Hid.out ?_)
      refine Hid.mk ?_
      go_wp2_with (refine wl_value rfl (exec_ld rfl rfl HLD.out) ?_; refine Hid.out ?_)
      refine Hid.mk ?_
      go_wp2_with (refine wl_alPc rfl rfl ?_; intro g5 w5 hg5 s5 hB5; refine Hid.out ?_)
      refine Hid.mk ?_
      go_wp2_with (refine st_stO (V := pcV P) (g := g5) rfl rfl isPc (pcV_one P) s5 rfl rfl ?_; intro w6 s6 ho6; refine Hid.out ?_)
      refine Hid.mk ?_
      have HB56 : Hid (Below wr.heap.size wr w6) := Hid.mk (hB5.trans (ho6.below hg5))
      have HJ6 := Hid.mk (HJ.out.kept HB56.out)
      have hszr : w2.heap.size ≤ wr.heap.size := Nat.le_trans (by have := HBU.out.base; omega) HBz.out.size
      have HB6 : Hid (Below w2.heap.size w3 w6) := Hid.mk (HBz.out.trans (HB56.out.mono hszr))
      have hsz6 : w2.heap.size ≤ w6.heap.size := Nat.le_trans hszr HB56.out.size
      have HWS := Hid.mk (writeS_run w2.heap.size b (joinS (S.take i)) P.pay w6 HJ6.out (by
        have h1 := HSZ.out (i + 1)
        rw [HST.out, ByteArray.size_append] at h1
        omega) hsz6)
      clear s5 hB5 ho6
      go_wp2_with (refine wl_value rfl (exec_fpcG 2 (by decide) rfl rfl) ?_; refine Hid.out ?_)
      refine Hid.mk ?_
      go_wp2_with (refine wl_value rfl (exec_ld rfl rfl (ldPs (pc_pay s6))) ?_; refine Hid.out ?_)
      refine Hid.mk ?_
      go_wp2_with (go_at_call 74; refine HWS.out.mono ?_; rintro e' w7 ⟨rfl, hJ7, hB7⟩; refine Hid.out ?_)
      refine Hid.mk ?_
      have HJ7 : Hid (IsB w2.heap.size b (joinS (S.take (i + 1))) w7) := Hid.mk (by rw [HST.out]; exact hJ7)
      have HB7 : Hid (Below w2.heap.size w3 w7) := Hid.mk (HB6.out.trans hB7)
      clear hJ7 hB7 s6
      go_wp2_with fail
      go_roundg (m + 1 - (i + 1))
      case rel => exact ⟨i + 1, Hid.mk (by omega), by go_num, HJ7, HB7⟩
      case measure => have := HI.out; omega
    · have hi2 : i = m + 1 := by have := HI.out; omega
      subst hi2
      have hz := HH.out.kept HBw.out
      have hszr : w2.heap.size ≤ wr.heap.size := Nat.le_trans (by have := HBU.out.base; omega) HBz.out.size
      have s2z : SAt wr g2 27 46 (pkV zeroP (.slice none 0 0)) := HS3.out.block (HBz.out.block g2 hg2l)
      rw [HJE.out] at HJ
      go_wp2_with (refine wl_value rfl (exec_fhp 2 (by decide) rfl rfl) ?_; refine Hid.out ?_)
      refine Hid.mk ?_
      go_wp2_with (refine wl_value rfl (exec_ld rfl rfl (ld_head hz)) ?_; refine Hid.out ?_)
      refine Hid.mk ?_
      go_wp2_with (refine wl_alO rfl rfl zeroPk ?_; intro g6 w6 hg6 s6 hB6; refine Hid.out ?_)
      refine Hid.mk ?_
      go_wp2_with (refine st_stO (V := pkV hd hv) (g := g6) rfl rfl isPk (pkV_one hv1) s6 rfl rfl ?_; intro w7 s7 ho7; refine Hid.out ?_)
      refine Hid.mk ?_
      have HB7 : Hid (Below wr.heap.size wr w7) := Hid.mk (hB6.trans (ho7.below hg6))
      have HJ7 := Hid.mk (HJ.out.kept HB7.out)
      have hsz7 : w2.heap.size ≤ w7.heap.size := Nat.le_trans hszr HB7.out.size
      have HSB := Hid.mk (stringB_only w2.heap.size b (joinS S) wr w7 HJ.out HB7.out (by rw [joinS_size]; exact HNZ.out))
      clear s6 hB6 ho7 hz
      go_wp2_with (go_at_call 75; refine HSB.out.mono ?_; rintro e' w8 ⟨rfl, gq, hgq1, hgq2, t8⟩; refine Hid.out ?_)
      refine Hid.mk ?_
      have hg67 := heap_lt s7
      have s8 := s7.block (t8.block g6 hg67 (by omega))
      have s2a : SAt w7 g2 27 46 (pkV zeroP (.slice none 0 0)) := s2z.block (HB7.out.block g2 (by omega))
      have s2b := s2a.block (t8.block g2 (heap_lt s2a) (by omega))
      have HB8 : Hid (Below w.heap.size w w8) := Hid.mk ((HBw.out.trans (HB7.out.mono HBw.out.size)).trans ⟨t8.os, t8.tape, t8.output, t8.size, fun k hk => t8.block k (by have h1 := HBw.out.size; have h2 := HB7.out.size; omega) (by omega)⟩)
      clear s7 s2z s2a t8
      go_wp2_with (refine wl_value rfl (exec_fpkL 13 45 (by decide) rfl rfl rfl) ?_; refine Hid.out ?_)
      refine Hid.mk ?_
      go_wp2_with (refine wl_stP (z := .string (joinS S)) (V' := pkV (withPay hd (joinS S)) hv) rfl rfl rfl rfl (by decide) (stS (joinS S)) s8 (pk_up45 hd hv (joinS S)) ?_; intro w9 s9 ho9; refine Hid.out ?_)
      refine Hid.mk ?_
      have s2c := s2b.only ho9 (by omega)
      go_wp2_with (refine wl_value rfl (look_st rfl isPk s9 rfl) ?_; refine Hid.out ?_)
      refine Hid.mk ?_
      go_wp2_with (refine st_stO (V := pkV (withPay hd (joinS S)) hv) (g := g2) rfl rfl isPk (pkV_one hv1) s2c rfl rfl ?_; intro w10 s10 ho10; refine Hid.out ?_)
      refine Hid.mk ?_
      go_wp2_with fail
      exact bodyPost_ret (res_st rfl isPk s10 rfl) rfl ⟨rfl, (HB8.out.trans (ho9.below (by have := HBw.out.size; omega))).trans (ho10.below hg2)⟩
theorem en_packet (args : Array Value) (w : World) : (callFunc 63 args).run Try.prog w = .ok (.enter 63 args) w := by kernel_rfl
end Go.Proofs.Ythnlfjkpiohooaa
/-
  Own text. Ranging over a map of heaps, in whatever order: what is still to come; deleting on the way.
-/
namespace Go.Proofs.Ythnlfjkpiohooaa
open Go.RowKit Go.Proofs
set_option maxRecDepth 100000
abbrev Zz := List ((Fam × Nat) × MapEntry)
def ZOk (Z : Zz) (clock : Nat) : Prop := (∀ z ∈ Z, KeyIs z.2.key z.1.1 ∧ z.2.val = pt z.1.2) ∧ (Z.map (·.2.born)).Nodup ∧ ∀ z ∈ Z, z.2.born < clock
theorem es_zip : ∀ {L : List (Fam × Nat)} {es : List MapEntry}, EsAt L es → ∃ Z : Zz, Z.map (·.1) = L ∧ Z.map (·.2) = es ∧ ∀ z ∈ Z, KeyIs z.2.key z.1.1 ∧ z.2.val = pt z.1.2
  | [], [], _ => ⟨[], rfl, rfl, fun z hz => by cases hz⟩
  | c :: L, x :: es, h => by
    obtain ⟨Z, h1, h2, h3⟩ := es_zip h.2.2
    refine ⟨(c, x) :: Z, by rw [List.map_cons, h1], by rw [List.map_cons, h2], fun z hz => ?_⟩
    rcases List.mem_cons.1 hz with rfl | hz
    · exact ⟨h.1, h.2.1⟩
    · exact h3 z hz
  | [], _ :: _, h => h.elim
  | _ :: _, [], h => h.elim
theorem zip_es : ∀ {Z : Zz}, (∀ z ∈ Z, KeyIs z.2.key z.1.1 ∧ z.2.val = pt z.1.2) → EsAt (Z.map (·.1)) (Z.map (·.2))
  | [], _ => trivial
  | z :: Z, h => ⟨(h z (by simp)).1, (h z (by simp)).2, zip_es (fun y hy => h y (by simp [hy]))⟩
theorem map_z {w : World} {m : Nat} {L : List (Fam × Nat)} : MapAt w m L ↔ ∃ Z clock, w.heap[m]? = some (.map (Z.map (·.2)).toArray clock) ∧ ZOk Z clock ∧ L = Z.map (·.1) := by
  constructor
  · rintro ⟨es, cl, h1, h2, h3, h4⟩
    obtain ⟨Z, e1, e2, e3⟩ := es_zip h2
    refine ⟨Z, cl, by rw [e2]; exact h1, ⟨e3, ?_, fun z hz => h4 _ (by rw [← e2]; exact List.mem_map_of_mem hz)⟩, e1.symm⟩
    rw [← e2, List.map_map] at h3
    exact h3
  · rintro ⟨Z, cl, h1, ⟨h2, h3, h4⟩, rfl⟩
    refine ⟨_, cl, h1, zip_es h2, ?_, fun x hx => ?_⟩
    · show ((Z.map (·.2)).map (·.born)).Nodup
      rw [List.map_map]
      exact h3
    · obtain ⟨z, hz, rfl⟩ := List.mem_map.1 hx
      exact h4 z hz
theorem eraseIdx_mapZ : ∀ (Z : Zz) (j : Nat), (Z.eraseIdx j).map (·.2) = (Z.map (·.2)).eraseIdx j
  | [], _ => rfl
  | _ :: _, 0 => rfl
  | z :: Z, j + 1 => by
    show z.2 :: (Z.eraseIdx j).map (·.2) = z.2 :: (Z.map (·.2)).eraseIdx j
    rw [eraseIdx_mapZ Z j]
/-- Block r goes over block m: a map with the entries L; left: those still to come. -/
def RangeAt (w : World) (m r : Nat) (L left : List (Fam × Nat)) : Prop := ∃ (Z : Zz) (clock since : Nat) (seen : Array Nat) (c0 : Nat), w.heap[m]? = some (.map (Z.map (·.2)).toArray clock) ∧ ZOk Z clock ∧ w.heap[r]? = some (.mapIter (some m) since seen c0) ∧ (∀ z ∈ Z, z.2.born < since) ∧ since ≤ c0 ∧ since ≤ clock ∧ L = Z.map (·.1) ∧ left = (Z.filter fun z => !seen.contains z.2.born).map (·.1)
theorem RangeAt.map {w : World} {m r : Nat} {L left : List (Fam × Nat)} (h : RangeAt w m r L left) : MapAt w m L := by
  obtain ⟨Z, cl, si, seen, c0, h1, h2, _, _, _, _, h6, _⟩ := h
  exact map_z.2 ⟨Z, cl, h1, h2, h6⟩
theorem RangeAt.ne {w : World} {m r : Nat} {L left : List (Fam × Nat)} (h : RangeAt w m r L left) : m ≠ r := by
  obtain ⟨Z, cl, si, seen, c0, h1, _, h3, _⟩ := h
  intro e
  subst e
  rw [h1] at h3
  cases h3
theorem RangeAt.lt {w : World} {m r : Nat} {L left : List (Fam × Nat)} (h : RangeAt w m r L left) : m < w.heap.size ∧ r < w.heap.size := by
  obtain ⟨Z, cl, si, seen, c0, h1, _, h3, _⟩ := h
  exact ⟨heap_lt h1, heap_lt h3⟩
theorem RangeAt.block {w w' : World} {m r : Nat} {L left : List (Fam × Nat)} (h : RangeAt w m r L left) (e1 : w'.heap[m]? = w.heap[m]?) (e2 : w'.heap[r]? = w.heap[r]?) : RangeAt w' m r L left := by
  obtain ⟨Z, cl, si, seen, c0, h1, h2, h3, h4⟩ := h
  exact ⟨Z, cl, si, seen, c0, e1.trans h1, h2, e2.trans h3, h4⟩
theorem RangeAt.kept {w w' : World} {m r : Nat} {L left : List (Fam × Nat)} (h : RangeAt w m r L left) (hb : Below w.heap.size w w') : RangeAt w' m r L left := h.block (hb.block _ h.lt.1) (hb.block _ h.lt.2)
theorem range_start {w : World} {m : Nat} {L : List (Fam × Nat)} (h : MapAt w m L) : ∃ w', (Instr.range 61 (.map (some m))).run Try.prog w = .ok (.pointer (some ⟨w.heap.size, 0, none⟩)) w' ∧ RangeAt w' m w.heap.size L L ∧ Below w.heap.size w w' ∧ w'.heap.size = w.heap.size + 1 := by
  obtain ⟨Z, cl, h1, h2, h3⟩ := map_z.1 h
  refine ⟨_, run_range_map w _ _ _ m _ cl Try.underlying61 h1, ⟨Z, cl, cl, #[], cl, ?_, h2, heap_alloc_new _ _, h2.2.2, Nat.le_refl _, Nat.le_refl _, h3, ?_⟩, (Below.refl _ _).alloc (Nat.le_refl _) _, by simp⟩
  · rw [Below.heap_alloc _ _ _ (heap_lt h1)]; exact h1
  · rw [h3]
    congr 1
    exact (List.filter_eq_self.2 (fun z _ => by simp)).symm
theorem perm_left {Z : Zz} {seen : Array Nat} {z : (Fam × Nat) × MapEntry} (hn : (Z.map (·.2.born)).Nodup) (hz : z ∈ Z) (hs : seen.contains z.2.born = false) : (Z.filter fun y => !seen.contains y.2.born).Perm (z :: Z.filter fun y => !(seen.push z.2.born).contains y.2.born) := by
  induction Z with
  | nil => cases hz
  | cons y Z ih =>
    rw [List.map_cons, List.nodup_cons] at hn
    have hp : ∀ b, (seen.push z.2.born).contains b = (seen.contains b || b == z.2.born) := fun b => by
      rw [Bool.eq_iff_iff]
      simp
    rcases List.mem_cons.1 hz with e | hz
    · subst e
      rw [List.filter_cons_of_pos (by rw [hs]; rfl), List.filter_cons_of_neg (by rw [hp]; simp)]
      refine List.Perm.cons _ ?_
      rw [show (Z.filter fun y => !(seen.push z.2.born).contains y.2.born) = Z.filter fun y => !seen.contains y.2.born from List.filter_congr (fun x hx => by
        have : x.2.born ≠ z.2.born := fun e => hn.1 (by rw [← e]; exact List.mem_map_of_mem (f := fun x : (Fam × Nat) × MapEntry => x.2.born) hx)
        rw [hp]
        simp [this])]
    · have hne : y.2.born ≠ z.2.born := fun e => hn.1 (by rw [e]; exact List.mem_map_of_mem (f := fun x : (Fam × Nat) × MapEntry => x.2.born) hz)
      have ih := ih hn.2 hz
      by_cases hy : seen.contains y.2.born = true
      · rw [List.filter_cons_of_neg (by rw [hy]; decide), List.filter_cons_of_neg (by rw [hp, hy]; simp)]
        exact ih
      · have hy : seen.contains y.2.born = false := by simpa using hy
        rw [List.filter_cons_of_pos (by rw [hy]; rfl), List.filter_cons_of_pos (by rw [hp, hy]; simp [hne])]
        exact (ih.cons y).trans (List.Perm.swap z y _)
/-- What an iterator's last step handed out. -/
def EntryIs (w : World) (r : Nat) (key : Value) (b : Nat) : Prop := (Instr.entry (.pointer (some ⟨r, 0, none⟩))).run Try.prog w = .ok (.tuple #[key, pt b]) w
theorem range_next {w : World} {m r : Nat} {L left : List (Fam × Nat)} (h : RangeAt w m r L left) (ty : TypeId) :
    (left = [] ∧ (Instr.next (.pointer (some ⟨r, 0, none⟩)) false ty).run Try.prog w = .ok (.tuple #[.bool false]) w) ∨
    ∃ c left' key w', left.Perm (c :: left') ∧ c ∈ L ∧ KeyIs key c.1 ∧ (Instr.next (.pointer (some ⟨r, 0, none⟩)) false ty).run Try.prog w = .ok (.tuple #[.bool true, key, pt c.2]) w' ∧ RangeAt w' m r L left' ∧ Only r w w' ∧ EntryIs w' r key c.2 := by
  have hmr := h.ne
  obtain ⟨Z, cl, si, seen, c0, h1, h2, h3, h4, h5, h6, h7, h8⟩ := h
  have hold : ∀ x ∈ (Z.map (·.2)).toArray.toList, x.born < si := fun x hx => by
    obtain ⟨z, hz, rfl⟩ := List.mem_map.1 (show x ∈ Z.map (·.2) from hx)
    exact h4 z hz
  have hleft : (Go.leftOf (Z.map (·.2)).toArray seen).toList = (Z.filter fun z => !seen.contains z.2.born).map (·.2) := by
    unfold Go.leftOf
    rw [Array.toList_filter]
    show List.filter _ (Z.map (·.2)) = _
    rw [List.filter_map]
    rfl
  rcases run_next_at w ty r m si c0 seen _ cl h3 h1 hold h5 with ⟨e0, hr⟩ | ⟨e, he, w1, hw1, hr⟩
  · left
    refine ⟨?_, hr⟩
    have : (Z.filter fun z => !seen.contains z.2.born).map (·.2) = [] := by
      rw [← hleft]
      exact List.eq_nil_of_length_eq_zero (by rw [Array.length_toList]; exact e0)
    rw [h8]
    rw [List.map_eq_nil_iff] at this ⊢
    exact this
  · right
    rw [hleft] at he
    obtain ⟨z, hz, rfl⟩ := List.mem_map.1 he
    obtain ⟨hz1, hz2⟩ := List.mem_filter.1 hz
    have hz2 : seen.contains z.2.born = false := by simpa using hz2
    obtain ⟨k1, k2⟩ := h2.1 z hz1
    have hw1h : w1.heap = w.heap := by rcases hw1 with rfl | rfl <;> rfl
    have hrl := heap_lt h3
    have hm2 : (Go.ChangeMaps.setBlock w1 r (.mapIter (some m) si (seen.push z.2.born) cl)).heap[m]? = some (.map (Z.map (·.2)).toArray cl) := by
      rw [(setB_only w1 r _).block m hmr, hw1h]; exact h1
    have hr2 : (Go.ChangeMaps.setBlock w1 r (.mapIter (some m) si (seen.push z.2.born) cl)).heap[r]? = some (.mapIter (some m) si (seen.push z.2.born) cl) := setB_at (by rw [hw1h]; exact hrl) _
    refine ⟨z.1, _, z.2.key, _, ?_, by rw [h7]; exact List.mem_map_of_mem hz1, k1, by rw [k2] at hr; exact hr, ⟨Z, cl, si, seen.push z.2.born, cl, hm2, h2, hr2, h4, h6, h6, h7, rfl⟩, ?_, ?_⟩
    · rw [h8]
      exact (perm_left h2.2.1 hz1 hz2).map (·.1)
    · have o := setB_only w1 r (.mapIter (some m) si (seen.push z.2.born) cl)
      refine ⟨o.os.trans ?_, o.tape.trans ?_, o.output.trans ?_, o.size.trans (by rw [hw1h]), fun k hk => (o.block k hk).trans (by rw [hw1h])⟩
      · rcases hw1 with rfl | rfl <;> rfl
      · rcases hw1 with rfl | rfl <;> rfl
      · rcases hw1 with rfl | rfl <;> rfl
    · have := run_entry_at (P := Try.prog) _ r m si seen (Z.map (·.2)).toArray cl z.2 hr2 hm2 (by show z.2 ∈ Z.map (·.2); exact List.mem_map_of_mem hz1) (by show ((Z.map (·.2)).map (·.born)).Nodup; rw [List.map_map]; exact h2.2.1)
      unfold EntryIs
      rw [this, k2]
theorem range_del {w : World} {m r : Nat} {L left : List (Fam × Nat)} {c : Fam × Nat} (h : RangeAt w m r L left) (hn : (L.map (·.1)).Nodup) (hc : c ∈ L) (hl : ∀ d ∈ left, d.1 ≠ c.1) {k : Value} (hk : KeyIs k c.1) (t : TypeId) : ∃ w', (Builtin.delete_ #[61, 69] t #[.map (some m), k]).run Try.prog w = .ok (.tuple #[]) w' ∧ RangeAt w' m r (L.filter (fun d => !decide (d.1 = c.1))) left ∧ Only m w w' := by
  have hmr := h.ne
  have hlt := h.lt
  obtain ⟨Z, cl, si, seen, c0, h1, h2, h3, h4, h5, h6, h7, h8⟩ := h
  have hes : EsAt (Z.map (·.1)) (Z.map (·.2)).toArray.toList := zip_es h2.1
  subst h7
  rcases find_asking hk w hes 0 with ⟨_, hno⟩ | ⟨j, c', e, hj, hcc, hno⟩
  · exact absurd rfl (hno c hc)
  · have hZ : (Z.eraseIdx j) = Z.filter (fun z => !decide (z.1.1 = c.1)) := by
      have key : ∀ (Z : Zz) (j : Nat) (c' : Fam × Nat), ((Z.map (·.1)).map (·.1)).Nodup → (Z.map (·.1))[j]? = some c' → c'.1 = c.1 → Z.eraseIdx j = Z.filter (fun z => !decide (z.1.1 = c.1)) := by
        intro Z
        induction Z with
        | nil => intro j c' _ h _; simp at h
        | cons z Z ih =>
          intro j c' hn h e
          rw [List.map_cons, List.map_cons, List.nodup_cons] at hn
          cases j with
          | zero =>
            simp at h
            subst h
            rw [List.eraseIdx_zero, List.tail_cons, List.filter_cons_of_neg (by simpa using e)]
            symm
            rw [List.filter_eq_self]
            intro d hd
            have : d.1.1 ≠ c.1 := fun e2 => hn.1 (by rw [e, ← e2]; exact List.mem_map_of_mem (List.mem_map_of_mem hd))
            simpa using this
          | succ j =>
            have h1 : (Z.map (·.1))[j]? = some c' := by simpa using h
            have hx : z.1.1 ≠ c.1 := fun e2 => hn.1 (by rw [e2, ← e]; exact List.mem_map_of_mem (List.mem_of_getElem? h1))
            rw [List.eraseIdx_cons_succ, ih j c' hn.2 h1 e, List.filter_cons_of_pos (by simpa using hx)]
      exact key Z j c' hn hj hcc
    have harr : (Z.map (·.2)).toArray.eraseIdxIfInBounds j = ((Z.filter (fun z => !decide (z.1.1 = c.1))).map (·.2)).toArray := by
      rw [← hZ]
      apply Array.toList_inj.1
      rw [Array.toList_eraseIdxIfInBounds]
      show (Z.map (·.2)).eraseIdx j = (Z.eraseIdx j).map (·.2)
      exact (eraseIdx_mapZ Z j).symm
    have o := setB_only w m (.map ((Z.filter (fun z => !decide (z.1.1 = c.1))).map (·.2)).toArray cl)
    refine ⟨Go.ChangeMaps.setBlock w m (.map ((Z.filter (fun z => !decide (z.1.1 = c.1))).map (·.2)).toArray cl), ?_, ⟨Z.filter (fun z => !decide (z.1.1 = c.1)), cl, si, seen, c0, setB_at hlt.1 _, ?_, (o.block r (fun e => hmr e.symm)).trans h3, fun z hz => h4 z (List.mem_filter.1 hz).1, h5, h6, ?_, ?_⟩, o⟩
    · rw [← harr]
      unfold Builtin.delete_
      have e : (Instr.findAsking 69 k (Z.map (·.2)) 0).run Try.prog w = .ok (some (0 + j, pt c'.2)) w := e
      simp [Sem.run_bind, run_underlying Try.underlying61 w, getObj, Sem.run, h1, e, chk_key hk, find_key]
      rw [run_setM h1]
      rfl
    · refine ⟨fun z hz => h2.1 z (List.mem_filter.1 hz).1, List.Nodup.sublist (List.Sublist.map _ List.filter_sublist) h2.2.1, fun z hz => h2.2.2 z (List.mem_filter.1 hz).1⟩
    · rw [List.filter_map]; rfl
    · rw [h8, List.filter_filter]
      congr 1
      refine List.filter_congr (fun z hz => ?_)
      by_cases hs : seen.contains z.2.born = true
      · rw [hs]; rfl
      · have hs : seen.contains z.2.born = false := by simpa using hs
        have : z.1.1 ≠ c.1 := hl z.1 (by rw [h8]; exact List.mem_map_of_mem (List.mem_filter.2 ⟨hz, by rw [hs]; rfl⟩))
        rw [hs]
        simp [this]
section
variable {ops : Array Oper} {rest : List Oper} {o : Oper} {a : Act} {w : World} {Q : Exit → Act → World → Prop}
theorem wl_range {x : Operand} {m : Nat} {L : List (Fam × Nat)} (ho : o.op = .range 61 x) (hw : Region.wanted o (yielded ops a.tmps) = true) (hx : a.eval x = .map (some m)) (hm : MapAt w m L)
    (h : ∀ r w', w.heap.size ≤ r → RangeAt w' m r L L → Below w.heap.size w w' → wpList Try.prog ops Q rest (a.put o.dst (.pointer (some ⟨r, 0, none⟩))) w') : wpList Try.prog ops Q (o :: rest) a w := by
  obtain ⟨w', hr, h1, h2, _⟩ := range_start hm
  refine wl_act hw ?_
  unfold Oper.wp execOp
  simp only [ho, hx, Sem.run_bind, hr, Result.andThen_ok, Sem.run_pure, Oper.upon]
  exact h _ _ (Nat.le_refl _) h1 h2
theorem wl_next {x : Operand} {m r : Nat} {L left : List (Fam × Nat)} (ho : o.op = .next x false) (hw : Region.wanted o (yielded ops a.tmps) = true) (hx : a.eval x = .pointer (some ⟨r, 0, none⟩)) (hm : RangeAt w m r L left)
    (h0 : left = [] → wpList Try.prog ops Q rest (a.put o.dst (.tuple #[.bool false])) w)
    (h : ∀ c left' key w', left.Perm (c :: left') → c ∈ L → KeyIs key c.1 → RangeAt w' m r L left' → Only r w w' → EntryIs w' r key c.2 → wpList Try.prog ops Q rest (a.put o.dst (.tuple #[.bool true, key, pt c.2])) w') : wpList Try.prog ops Q (o :: rest) a w := by
  refine wl_act hw ?_
  rcases range_next hm o.type with ⟨e, hr⟩ | ⟨c, left', key, w', h1, h2, h3, hr, h4, h5, h6⟩
  · unfold Oper.wp execOp
    simp only [ho, hx, Sem.run_bind, hr, Result.andThen_ok, Sem.run_pure, Oper.upon]
    exact h0 e
  · unfold Oper.wp execOp
    simp only [ho, hx, Sem.run_bind, hr, Result.andThen_ok, Sem.run_pure, Oper.upon]
    exact h c left' key w' h1 h2 h3 h4 h5 h6
theorem exec_entry {x : Operand} {r b : Nat} {key : Value} (ho : o.op = .entry x) (hx : a.eval x = .pointer (some ⟨r, 0, none⟩)) (he : EntryIs w r key b) : (execOp a.eval o).run Try.prog w = .ok (.value (.tuple #[key, pt b])) w := by
  unfold EntryIs at he
  unfold execOp
  simp only [ho, hx, Sem.run_bind, he, Result.andThen_ok, Sem.run_pure]
theorem wl_del {x y : Operand} {m : Nat} {L : List (Fam × Nat)} {k : Value} {F : Fam} (ho : o.op = .call { callee := .builtin .delete, args := #[x, y], argTypes := #[61, 69] }) (hw : Region.wanted o (yielded ops a.tmps) = true) (hx : a.eval x = .map (some m)) (hy : a.eval y = k) (hm : MapAt w m L) (hn : (L.map (·.1)).Nodup) (hk : KeyIs k F)
    (h : ∀ w', MapAt w' m (L.filter (fun c => !decide (c.1 = F))) → Only m w w' → wpList Try.prog ops Q rest (a.put o.dst (.tuple #[])) w') : wpList Try.prog ops Q (o :: rest) a w := by
  obtain ⟨w', hr, h1, h2⟩ := run_delF hm hn hk o.type
  refine wl_act hw ?_
  unfold Oper.wp
  simp [execOp, ho, resolve, invoke, builtin, hx, hy, hr, Oper.upon, Result.andThen]
  exact h _ h1 h2
theorem wl_delR {x y : Operand} {m r : Nat} {L left : List (Fam × Nat)} {k : Value} {c : Fam × Nat} (ho : o.op = .call { callee := .builtin .delete, args := #[x, y], argTypes := #[61, 69] }) (hw : Region.wanted o (yielded ops a.tmps) = true) (hx : a.eval x = .map (some m)) (hy : a.eval y = k) (hm : RangeAt w m r L left) (hn : (L.map (·.1)).Nodup) (hc : c ∈ L) (hl : ∀ d ∈ left, d.1 ≠ c.1) (hk : KeyIs k c.1)
    (h : ∀ w', RangeAt w' m r (L.filter (fun d => !decide (d.1 = c.1))) left → Only m w w' → wpList Try.prog ops Q rest (a.put o.dst (.tuple #[])) w') : wpList Try.prog ops Q (o :: rest) a w := by
  obtain ⟨w', hr, h1, h2⟩ := range_del hm hn hc hl hk o.type
  refine wl_act hw ?_
  unfold Oper.wp
  simp [execOp, ho, resolve, invoke, builtin, hx, hy, hr, Oper.upon, Result.andThen]
  exact h _ h1 h2
end
end Go.Proofs.Ythnlfjkpiohooaa
/-
  Own text. What a box tells: how many heaps, how many bytes, whose began first, when the next one is late; a new one; the time.
-/
namespace Go.Proofs.Ythnlfjkpiohooaa
open Go.RowKit Go.Proofs
set_option maxRecDepth 100000
def prs (cs : List Ch) : List (Fam × Nat) := cs.map fun c => (c.h.fam, c.blk)
theorem BoxAt.nodup {w : World} {B : Nat} {N : Nat → Prop} {g : Nat} {mv : Value} {b : Bx} {begun : Int} {cs : List Ch} (h : BoxAt w B N g mv b begun cs) : ((prs cs).map (·.1)).Nodup := by
  have := h.inv.nod
  rw [← h.hs, List.map_map] at this
  unfold prs
  rw [List.map_map]
  exact this
theorem BoxAt.ok {w : World} {B : Nat} {N : Nat → Prop} {g : Nat} {mv : Value} {b : Bx} {begun : Int} {cs : List Ch} (h : BoxAt w B N g mv b begun cs) {c : Ch} (hc : c ∈ cs) : HpOk b.time c.h := h.inv.ok _ (by rw [← h.hs]; exact List.mem_map_of_mem hc)
theorem BoxAt.blk_inj {w : World} {B : Nat} {N : Nat → Prop} {g : Nat} {mv : Value} {b : Bx} {begun : Int} {cs : List Ch} (h : BoxAt w B N g mv b begun cs) : cs.Pairwise (fun c d => c.blk ≠ d.blk) := h.apart.imp (fun {c _d} hcd e => hcd c.blk (.inl rfl) (.inl e))
/-- The row of a heap in a box: not nil. -/
theorem ChAt.shape {w : World} {B : Nat} {c : Ch} (h : ChAt w B c) {t : Int} (ho : HpOk t c.h) : ∃ q cap m, c.ps = .slice (some ⟨q, 0, none⟩) (m + 1) cap ∧ c.S.length = m + 1 ∧ m < 64 ∧ OkL c.S ∧ c.S ≠ [] := by
  obtain ⟨p, cap, hp, hq⟩ := row_shape h.row
  have hl := h.perm.length_eq
  have h0 : c.S ≠ [] := by
    intro e
    have := ho.2.2.1
    rw [e] at hl
    exact this (List.eq_nil_of_length_eq_zero hl)
  have hpos : 0 < c.S.length := List.length_pos_iff.2 h0
  obtain ⟨q, rfl⟩ := hq hpos
  have := ho.2.2.2.1
  exact ⟨q, cap, c.S.length - 1, by rw [hp]; congr 1; omega, by omega, by omega, ho.2.2.2.2.1.perm h.perm, h0⟩
def sumL (f : Fam × Nat → Nat) : List (Fam × Nat) → Nat
  | [] => 0
  | d :: l => f d + sumL f l
theorem sumL_perm {f : Fam × Nat → Nat} {l m : List (Fam × Nat)} (h : l.Perm m) : sumL f l = sumL f m := by
  induction h with
  | nil => rfl
  | cons x _ ih => show _ + _ = _ + _; rw [ih]
  | swap x y l => show _ + (_ + _) = _ + (_ + _); omega
  | trans _ _ ih1 ih2 => exact ih1.trans ih2
def heldD (cs : List Ch) (d : Fam × Nat) : Nat := match cs.find? (fun c => decide (c.blk = d.2)) with
  | some c => heldL c.h.ps
  | none => 0
theorem heldD_at {cs : List Ch} (hn : cs.Pairwise (fun c d => c.blk ≠ d.blk)) {c : Ch} (hc : c ∈ cs) (F : Fam) : heldD cs (F, c.blk) = heldL c.h.ps := by
  unfold heldD
  have : cs.find? (fun x => decide (x.blk = c.blk)) = some c := by
    induction cs with
    | nil => cases hc
    | cons x cs ih =>
      rw [List.pairwise_cons] at hn
      rcases List.mem_cons.1 hc with rfl | hc
      · rw [List.find?_cons_of_pos (by simp)]
      · rw [List.find?_cons_of_neg (by simpa using hn.1 c hc)]
        exact ih hn.2 hc
  show (match cs.find? (fun x => decide (x.blk = c.blk)) with | some c => heldL c.h.ps | none => 0) = _
  rw [this]
theorem heldD_sum {cs : List Ch} (hn : cs.Pairwise (fun c d => c.blk ≠ d.blk)) : sumL (heldD cs) (prs cs) = heldF (cs.map Ch.h) := by
  have key : ∀ (l : List Ch), (∀ c ∈ l, c ∈ cs) → sumL (heldD cs) (prs l) = heldF (l.map Ch.h) := by
    intro l
    induction l with
    | nil => intro _; rfl
    | cons c l ih =>
      intro h
      show heldD cs (c.h.fam, c.blk) + sumL (heldD cs) (prs l) = heldL c.h.ps + heldF (l.map Ch.h)
      rw [heldD_at hn (h c (by simp)), ih (fun d hd => h d (by simp [hd]))]
  exact key cs (fun c hc => hc)
theorem pr_of {cs : List Ch} {d : Fam × Nat} (h : d ∈ prs cs) : ∃ c ∈ cs, d = (c.h.fam, c.blk) := by
  obtain ⟨c, hc, rfl⟩ := List.mem_map.1 h
  exact ⟨c, hc, rfl⟩
theorem sum_le {f : Fam × Nat → Nat} : ∀ {l m : List (Fam × Nat)}, l.Perm m → ∀ {d l'}, l = d :: l' → f d + sumL f l' = sumL f m
  | _, _, h, _, _, rfl => by rw [← sumL_perm h]; rfl
theorem wl_rangeN {ops : Array Oper} {rest : List Oper} {o : Oper} {a : Act} {w : World} {Q : Exit → Act → World → Prop} {x : Operand} (ho : o.op = .range 61 x) (hw : Region.wanted o (yielded ops a.tmps) = true) (hx : a.eval x = .map none)
    (h : ∀ r w', (∀ ty, (Instr.next (.pointer (some ⟨r, 0, none⟩)) false ty).run Try.prog w' = .ok (.tuple #[.bool false]) w') → Below w.heap.size w w' → wpList Try.prog ops Q rest (a.put o.dst (.pointer (some ⟨r, 0, none⟩))) w') : wpList Try.prog ops Q (o :: rest) a w := by
  have hr := run_range_nilMap (P := Try.prog) w _ _ _ Try.underlying61
  refine wl_act hw ?_
  unfold Oper.wp execOp
  simp only [ho, hx, Sem.run_bind, hr, Result.andThen_ok, Sem.run_pure, Oper.upon]
  exact h _ _ (fun ty => run_next_nilMap w ty _ _ _) ((Below.refl _ _).alloc (Nat.le_refl _) _)
theorem exec_nextN {a : Act} {o : Oper} {w : World} {x : Operand} {r : Nat} (ho : o.op = .next x false) (hx : a.eval x = .pointer (some ⟨r, 0, none⟩)) (h : ∀ ty, (Instr.next (.pointer (some ⟨r, 0, none⟩)) false ty).run Try.prog w = .ok (.tuple #[.bool false]) w) : (execOp a.eval o).run Try.prog w = .ok (.value (.tuple #[.bool false])) w := by
  unfold execOp
  simp only [ho, hx, Sem.run_bind, h, Result.andThen_ok, Sem.run_pure]
theorem run_nilB (p : Addr) (w : World) : Sem.run Try.prog (binOp .eql 40 (.pointer (some p)) (.pointer none)) w = .ok (.bool false) w := by kernel_rfl
theorem ChAt.kept {w w' : World} {B : Nat} {c : Ch} (h : ChAt w B c) (hb : Below w.heap.size w w') : ChAt w' B c := h.block (fun k hk => hb.block k (h.lt hk))
theorem wl_nextE {ops : Array Oper} {rest : List Oper} {o : Oper} {a : Act} {w : World} {Q : Exit → Act → World → Prop} {x : Operand} {m r : Nat} {L : List (Fam × Nat)} (ho : o.op = .next x false) (hw : Region.wanted o (yielded ops a.tmps) = true) (hx : a.eval x = .pointer (some ⟨r, 0, none⟩)) (hm : RangeAt w m r L [])
    (h : wpList Try.prog ops Q rest (a.put o.dst (.tuple #[.bool false])) w) : wpList Try.prog ops Q (o :: rest) a w :=
  wl_next ho hw hx hm (fun _ => h) (fun _ _ _ _ hp => nomatch hp.length_eq)
theorem wl_nextC {ops : Array Oper} {rest : List Oper} {o : Oper} {a : Act} {w : World} {Q : Exit → Act → World → Prop} {x : Operand} {m r : Nat} {L left : List (Fam × Nat)} (ho : o.op = .next x false) (hw : Region.wanted o (yielded ops a.tmps) = true) (hx : a.eval x = .pointer (some ⟨r, 0, none⟩)) (hm : RangeAt w m r L left) (hne : left ≠ [])
    (h : ∀ c left' key w', left.Perm (c :: left') → c ∈ L → KeyIs key c.1 → RangeAt w' m r L left' → Only r w w' → EntryIs w' r key c.2 → wpList Try.prog ops Q rest (a.put o.dst (.tuple #[.bool true, key, pt c.2])) w') : wpList Try.prog ops Q (o :: rest) a w :=
  wl_next ho hw hx hm (fun e => absurd e hne) h
set_option maxHeartbeats 4000000 in
theorem Waiting_run {w : World} {B : Nat} {N : Nat → Prop} {g : Nat} {mv : Value} {b : Bx} {begun : Int} {cs : List Ch} (h : BoxAt w B N g mv b begun cs) : Calls Try.prog 18 #[.pointer (some ⟨g, 0, none⟩)] w fun e w' => e = .returned (.int .i64 (b.hs.length : Int)) ∧ Below w.heap.size w w' := by
  have hlen : cs.length = b.hs.length := by rw [← h.hs, List.length_map]
  have c0 := bx_map h.at_
  have hm := h.map
  have hnil := run_nilB ⟨g, 0, none⟩
  have HL := Hid.mk hlen
  clear h hlen
  rcases hm with ⟨rfl, e⟩ | ⟨m, rfl, hma⟩
  · go_enter Try.func18, Try.ntmps18
    go_wp2_with (refine wl_value rfl (exec_fbx 0 (by decide) rfl rfl) ?_; refine Hid.out ?_)
    refine Hid.mk ?_
    go_wp2_with (refine wl_value rfl (exec_ld rfl rfl (ldM c0)) ?_; refine Hid.out ?_)
    refine Hid.mk ?_
    go_wp2_with (refine wl_value rfl (exec_lenM0 rfl rfl) ?_; refine Hid.out ?_)
    refine Hid.mk ?_
    go_wp2_with fail
    go_ret
    exact ⟨by rw [← HL.out, e]; rfl, Below.refl _ _⟩
  · go_enter Try.func18, Try.ntmps18
    go_wp2_with (refine wl_value rfl (exec_fbx 0 (by decide) rfl rfl) ?_; refine Hid.out ?_)
    refine Hid.mk ?_
    go_wp2_with (refine wl_value rfl (exec_ld rfl rfl (ldM c0)) ?_; refine Hid.out ?_)
    refine Hid.mk ?_
    go_wp2_with (refine wl_value rfl (exec_lenM rfl hma rfl) ?_; refine Hid.out ?_)
    refine Hid.mk ?_
    go_wp2_with fail
    go_ret
    exact ⟨by rw [← HL.out]; rfl, Below.refl _ _⟩
set_option maxHeartbeats 16000000 in
theorem Held_run {w : World} {B : Nat} {N : Nat → Prop} {g : Nat} {mv : Value} {b : Bx} {begun : Int} {cs : List Ch} (h : BoxAt w B N g mv b begun cs) : Calls Try.prog 19 #[.pointer (some ⟨g, 0, none⟩)] w fun e w' => e = .returned (.int .i64 (heldF b.hs : Int)) ∧ Below w.heap.size w w' := by
  have c0 := bx_map h.at_
  have hm := h.map
  have hnil := run_nilB ⟨g, 0, none⟩
  have HB := Hid.mk h
  have HT : Hid (sumL (heldD cs) (prs cs) = heldF b.hs) := Hid.mk (by rw [heldD_sum h.blk_inj, h.hs])
  have HLE : Hid (heldF b.hs ≤ 8 * 65535) := Hid.mk (Nat.le_trans (heldF_le h.inv.ok).1 (Nat.mul_le_mul_right _ h.inv.few))
  clear h
  rcases hm with ⟨rfl, e⟩ | ⟨m, rfl, hma⟩
  · subst e
    have h0 : heldF b.hs = 0 := by rw [← HT.out]; rfl
    rw [h0]
    go_enter Try.func19, Try.ntmps19
    go_wp2_with (refine wl_value rfl (exec_fbx 0 (by decide) rfl rfl) ?_; refine Hid.out ?_)
    refine Hid.mk ?_
    go_wp2_with (refine wl_value rfl (exec_ld rfl rfl (ldM c0)) ?_; refine Hid.out ?_)
    refine Hid.mk ?_
    go_wp2_with (refine wl_rangeN rfl rfl rfl ?_; intro r w1 hnx hB1; refine Hid.out ?_)
    refine Hid.mk ?_
    have HNX := Hid.mk hnx
    clear hnx c0
    go_wp2_with fail
    go_loopg [3] 1 (fun gm s3 z => s3 = .int .i64 0 ∧ z = w1)
    case atStart => exact ⟨rfl, rfl⟩
    case round =>
      obtain ⟨rfl, rfl⟩ := hrel
      go_wp2_with (refine wl_value rfl (exec_nextN rfl rfl HNX.out) ?_; refine Hid.out ?_)
      refine Hid.mk ?_
      go_wp2_with fail
      go_ret
      exact ⟨rfl, hB1⟩
  · go_enter Try.func19, Try.ntmps19
    go_wp2_with (refine wl_value rfl (exec_fbx 0 (by decide) rfl rfl) ?_; refine Hid.out ?_)
    refine Hid.mk ?_
    go_wp2_with (refine wl_value rfl (exec_ld rfl rfl (ldM c0)) ?_; refine Hid.out ?_)
    refine Hid.mk ?_
    go_wp2_with (refine wl_range rfl rfl rfl hma ?_; intro r w1 hr1 hrg hB1; refine Hid.out ?_)
    refine Hid.mk ?_
    have HRG := Hid.mk hrg
    have HB1 := Hid.mk hB1
    clear hrg c0 hma hB1
    go_wp2_with fail
    go_loopg [3] (prs cs).length (fun gm s3 z => ∃ (left : List (Fam × Nat)) (acc : Nat), Hid (gm = left.length) ∧ s3 = .int .i64 (acc : Int) ∧ Hid (acc + sumL (heldD cs) left = heldF b.hs) ∧ Hid (RangeAt z m r (prs cs) left) ∧ Hid (Below w.heap.size w z))
    case atStart => exact ⟨prs cs, 0, Hid.mk rfl, rfl, Hid.mk (by rw [Nat.zero_add]; exact HT.out), HRG, HB1⟩
    case round =>
      obtain ⟨left, acc, HG, rfl, HA, HR, HBz⟩ := hrel
      by_cases he : left = []
      · subst he
        have hacc : acc = heldF b.hs := HA.out
        subst hacc
        go_wp2_with (refine wl_nextE rfl rfl rfl HR.out ?_; refine Hid.out ?_)
        refine Hid.mk ?_
        go_wp2_with fail
        go_ret
        exact ⟨rfl, HBz.out⟩
      · have HE := Hid.mk he
        go_wp2_with (refine wl_nextC rfl rfl rfl HR.out HE.out ?_; intro d left' key w2 hpm hdm hkey hrg2 ho2 hen; refine Hid.out ?_)
        refine Hid.mk ?_
        obtain ⟨c, hc, rfl⟩ := pr_of hdm
        have HB2 : Hid (Below w.heap.size w w2) := Hid.mk (HBz.out.trans (ho2.below hr1))
        have hca := (HB.out.all c hc).kept HB2.out
        have hok := HB.out.ok hc
        obtain ⟨q, cap, k, hps, hlen, hk, hol, hne⟩ := hca.shape hok
        have hat := hca.at_
        have hrow := hca.row
        rw [hps] at hat hrow
        rw [← hlen] at hat hrow
        have hle : heldL c.S ≤ 65535 := held_le hol
        have hcall := held_run hat hrow (by omega) hle
        rw [← held_perm hca.perm] at hcall
        have HC := Hid.mk hcall
        have HS : Hid (acc + heldL c.h.ps + sumL (heldD cs) left' = heldF b.hs) := Hid.mk (by
          have h1 := sumL_perm (f := heldD cs) hpm
          have h2 : sumL (heldD cs) ((c.h.fam, c.blk) :: left') = heldL c.h.ps + sumL (heldD cs) left' := by
            show heldD cs (c.h.fam, c.blk) + _ = _
            rw [heldD_at HB.out.blk_inj hc]
          have h3 := HA.out
          omega)
        have HL' := Hid.mk hpm.length_eq
        have HRG2 := Hid.mk hrg2
        have HEN := Hid.mk hen
        clear hcall hca hok hps hlen hk hol hne hat hrow hle hpm hdm hkey hrg2 ho2 hen hc he
        generalize heldL c.h.ps = hp at *
        go_wp2_with (refine wl_value rfl (exec_entry rfl rfl HEN.out) ?_; refine Hid.out ?_)
        refine Hid.mk ?_
        go_wp2_with (go_at_call 40; refine HC.out.mono ?_; rintro e w3 ⟨rfl, hB3⟩; refine Hid.out ?_)
        refine Hid.mk ?_
        have HB3 := Hid.mk hB3
        clear hB3
        go_wp2_with (refine wl_value rfl (exec_addW (i := acc) (m := hp) rfl rfl rfl rfl (by have := HS.out; have := HLE.out; omega)) ?_; refine Hid.out ?_)
        refine Hid.mk ?_
        go_wp2_with fail
        go_roundg left'.length
        case rel => exact ⟨left', acc + hp, Hid.mk rfl, rfl, HS, Hid.mk (HRG2.out.kept HB3.out), Hid.mk (HB2.out.trans (HB3.out.mono HB2.out.size))⟩
        case measure => have h1 := HG.out; have h2 := HL'.out; simp at h2; omega
end Go.Proofs.Ythnlfjkpiohooaa
/-
  Own text. What a box tells: whose heap began first, when the next one is late; a new one; the time.
-/
namespace Go.Proofs.Ythnlfjkpiohooaa
open Go.RowKit Go.Proofs
set_option maxRecDepth 100000
theorem fam_dec (a e : Int) (sv : Bool) (sb : Nat → Int) (dv : Bool) (db : Nat → Int) (p i : Int) : ∀ j, (fmV a e sv sb dv db p i j).oneCell' = true := fun j => fmV_one j
theorem key_form {k : Value} {F : Fam} (h : KeyIs k F) : ∃ V : Nat → Value, k = .agg (SC 38 V) ∧ ∀ j, (V j).oneCell' = true := by
  obtain ⟨a, e, sv, sb, dv, db, p, i, rfl, _⟩ := h
  exact ⟨_, rfl, fun j => fmV_one j⟩
theorem head_least {cs : List Ch} {c0 c : Ch} {l : List Ch} (e : cs = c0 :: l) (hp : cs.Pairwise (fun c d => c.num < d.num)) (hc : c ∈ cs) (hl : c.num ≤ c0.num) : c = c0 := by
  subst e
  rw [List.pairwise_cons] at hp
  rcases List.mem_cons.1 hc with h | h
  · exact h
  · have := hp.1 c h; omega
/-- Which heap is the first so far: of those met, n is the least number, V3 the family. -/
def Best (cs : List Ch) (left : List (Fam × Nat)) (begun n : Int) (V3 : Nat → Value) : Prop := (∀ c ∈ cs, (c.h.fam, c.blk) ∈ left ∨ n ≤ c.num) ∧ (n = begun ∨ ∃ c ∈ cs, n = c.num ∧ KeyIs (.agg (SC 38 V3)) c.h.fam)
theorem Best.end_ {cs : List Ch} {begun n : Int} {V3 : Nat → Value} {c0 : Ch} {l : List Ch} (h : Best cs [] begun n V3) (e : cs = c0 :: l) (hp : cs.Pairwise (fun c d => c.num < d.num)) (hb : ∀ c ∈ cs, c.num < begun) : KeyIs (.agg (SC 38 V3)) c0.h.fam := by
  have h0 : n ≤ c0.num := (h.1 c0 (by rw [e]; simp)).resolve_left (by simp)
  rcases h.2 with h2 | ⟨c, hc, hn, hk⟩
  · have := hb c0 (by rw [e]; simp); omega
  · rw [head_least e hp hc (by omega)] at hk
    exact hk
theorem Best.step {cs : List Ch} {begun n : Int} {V3 V : Nat → Value} {left left' : List (Fam × Nat)} {c : Ch} (h : Best cs left begun n V3) (hn : cs.Pairwise (fun c d => c.blk ≠ d.blk)) (hc : c ∈ cs) (hp : left.Perm ((c.h.fam, c.blk) :: left')) : (c.num < n → KeyIs (.agg (SC 38 V)) c.h.fam → Best cs left' begun c.num V) ∧ (¬ c.num < n → Best cs left' begun n V3) := by
  have same : ∀ d ∈ cs, d.blk = c.blk → d = c := by
    intro d hd e
    clear h
    induction cs with
    | nil => cases hd
    | cons x cs ih =>
      rw [List.pairwise_cons] at hn
      rcases List.mem_cons.1 hd with h1 | h1 <;> rcases List.mem_cons.1 hc with h2 | h2
      · rw [h1, h2]
      · subst h1; exact absurd e (hn.1 c h2)
      · subst h2; exact absurd e.symm (hn.1 d h1)
      · exact ih hn.2 h2 h1
  have old : ∀ d ∈ cs, (d.h.fam, d.blk) ∈ left' ∨ d = c ∨ n ≤ d.num := by
    intro d hd
    rcases h.1 d hd with h1 | h1
    · rcases List.mem_cons.1 (hp.mem_iff.1 h1) with h2 | h2
      · injection h2 with _ h2
        exact .inr (.inl (same d hd h2))
      · exact .inl h2
    · exact .inr (.inr h1)
  refine ⟨fun hlt hk => ⟨fun d hd => ?_, .inr ⟨c, hc, rfl, hk⟩⟩, fun hge => ⟨fun d hd => ?_, h.2⟩⟩
  · rcases old d hd with h1 | rfl | h1
    · exact .inl h1
    · exact .inr (Int.le_refl _)
    · exact .inr (by omega)
  · rcases old d hd with h1 | rfl | h1
    · exact .inl h1
    · exact .inr (by omega)
    · exact .inr h1
theorem exec_entryP {a : Act} {o : Oper} {w : World} {x : Operand} {r b : Nat} {key : Value} (ho : o.op = .entry x) (hx : a.eval x = .pointer (some ⟨r, 0, none⟩)) (he : EntryIs w r key b) : (execOp a.eval o).run Try.prog w = .ok (.value (.tuple #[key, .pointer (some ⟨b, 0, none⟩)])) w := exec_entry ho hx he
theorem exec_ltT {a : Act} {o : Oper} {w : World} {x y : Operand} (ho : o.op = .binOp .lss 3 x y 3) {m n : Int} (hx : a.eval x = .int .i64 m) (hy : a.eval y = .int .i64 n) (h : m < n) : (execOp a.eval o).run Try.prog w = .ok (.value (.bool true)) w := by
  have := cmp_lt (w := w) ho hx hy
  rwa [decide_eq_true h] at this
theorem exec_ltF {a : Act} {o : Oper} {w : World} {x y : Operand} (ho : o.op = .binOp .lss 3 x y 3) {m n : Int} (hx : a.eval x = .int .i64 m) (hy : a.eval y = .int .i64 n) (h : ¬ m < n) : (execOp a.eval o).run Try.prog w = .ok (.value (.bool false)) w := by
  have := cmp_lt (w := w) ho hx hy
  rwa [decide_eq_false h] at this
set_option maxHeartbeats 16000000 in
theorem first_run {w : World} {B : Nat} {N : Nat → Prop} {g m : Nat} {b : Bx} {begun : Int} {cs l : List Ch} {c0 : Ch} (h : BoxAt w B N g (.map (some m)) b begun cs) (hcs : cs = c0 :: l) : Calls Try.prog 41 #[.pointer (some ⟨g, 0, none⟩)] w fun e w' => (∃ key, e = .returned key ∧ KeyIs key c0.h.fam) ∧ Below w.heap.size w w' := by
  have cm := bx_map h.at_
  have cb := bx_begun h.at_
  have hma : MapAt w m (prs cs) := by
    rcases h.map with ⟨e, _⟩ | ⟨m', e, hm⟩
    · cases e
    · cases e; exact hm
  have HB := Hid.mk h
  have HEND : Hid (∀ n V3, Best cs [] begun n V3 → KeyIs (.agg (SC 38 V3)) c0.h.fam) := Hid.mk (fun n V3 hb => hb.end_ hcs h.num (fun c hc => (h.num0 c hc).2))
  have HMA := Hid.mk hma
  clear h hcs hma
  go_enter Try.func41, Try.ntmps41
  go_wp2_with (refine wl_alO rfl rfl zeroFm ?_; intro g2 w1 hg2 s2 hB1; refine Hid.out ?_)
  refine Hid.mk ?_
  go_wp2_with (refine wl_alO rfl rfl zeroFm ?_; intro g3 w2 hg3 s3 hB2; refine Hid.out ?_)
  refine Hid.mk ?_
  have hg23 : g2 < w1.heap.size := s2.lt
  have s2 := s2.kept hB2
  have hBa := hB1.trans (hB2.mono hB1.size)
  have cb := (hBa.cell (p := ⟨g, 2, none⟩) HB.out.at_.lt).trans cb
  have cm := (hBa.cell (p := ⟨g, 0, none⟩) HB.out.at_.lt).trans cm
  have HS1 := Hid.mk hB1.size
  have HS2 := Hid.mk hB2.size
  clear hB1 hB2
  go_wp2_with (refine wl_value rfl (exec_fbx 2 (by decide) rfl rfl) ?_; refine Hid.out ?_)
  refine Hid.mk ?_
  go_wp2_with (refine wl_value rfl (exec_ld rfl rfl (ldP cb)) ?_; refine Hid.out ?_)
  refine Hid.mk ?_
  go_wp2_with (refine wl_value rfl (exec_fbx 0 (by decide) rfl rfl) ?_; refine Hid.out ?_)
  refine Hid.mk ?_
  go_wp2_with (refine wl_value rfl (exec_ld rfl rfl (ldM cm)) ?_; refine Hid.out ?_)
  refine Hid.mk ?_
  go_wp2_with (refine wl_range rfl rfl rfl (HMA.out.kept hBa) ?_; intro r w3 hr1 hrg hB3; refine Hid.out ?_)
  refine Hid.mk ?_
  have hr3 : g3 < r := Nat.lt_of_lt_of_le s3.lt hr1
  have s2 := s2.kept hB3
  have s3 := s3.kept hB3
  have HG3 : Hid (w.heap.size ≤ g2 ∧ g2 < g3 ∧ g3 < r) := Hid.mk ⟨hg2, Nat.lt_of_lt_of_le hg23 hg3, hr3⟩
  have HBa := Hid.mk (hBa.trans (hB3.mono hBa.size))
  have HRG := Hid.mk hrg
  have HS := Hid.mk (And.intro s2 s3)
  clear s2 s3 hrg hB3 hr1 hr3 hBa cb cm hg2 hg3 hg23
  go_wp2_with fail
  go_loopg [4] (prs cs).length (fun gm s4 z => ∃ (left : List (Fam × Nat)) (n : Int) (V3 : Nat → Value), Hid (gm = left.length) ∧ s4 = .int .i64 n ∧ Hid (Best cs left begun n V3) ∧ Hid (RangeAt z m r (prs cs) left) ∧ Hid (Below w.heap.size w z) ∧ Hid (∃ V2, SAt z g2 69 38 V2) ∧ Hid (SAt z g3 69 38 V3 ∧ ∀ j, (V3 j).oneCell' = true))
  case atStart => exact ⟨prs cs, begun, _, Hid.mk rfl, rfl, Hid.mk ⟨fun c hc => .inl (List.mem_map_of_mem hc), .inl rfl⟩, HRG, HBa, Hid.mk ⟨_, HS.out.1⟩, Hid.mk ⟨HS.out.2, fun j => fmV_one j⟩⟩
  case round =>
    obtain ⟨left, n, V3, HL0, rfl, HBE, HR, HBz, HV2, HV3⟩ := hrel
    by_cases he : left = []
    · subst he
      have HK := Hid.mk (HEND.out n V3 HBE.out)
      obtain ⟨V2, s2⟩ := HV2.out
      have s3 := HV3.out.1
      have h1 := HV3.out.2
      go_wp2_with (refine wl_nextE rfl rfl rfl HR.out ?_; refine Hid.out ?_)
      refine Hid.mk ?_
      go_wp2_with (refine wl_value rfl (look_st rfl isFm s3 rfl) ?_; refine Hid.out ?_)
      refine Hid.mk ?_
      go_wp2_with (refine st_stO (V := V3) (g := g2) rfl rfl isFm h1 s2 rfl rfl ?_; intro w4 s4 ho4; refine Hid.out ?_)
      refine Hid.mk ?_
      go_wp2_with fail
      exact bodyPost_ret (res_st rfl isFm s4 rfl) rfl ⟨⟨_, rfl, HK.out⟩, HBz.out.trans (ho4.below HG3.out.1)⟩
    · have HE := Hid.mk he
      go_wp2_with (refine wl_nextC rfl rfl rfl HR.out HE.out ?_; intro d left' key w4 hpm hdm hkey hrg2 ho2 hen; refine Hid.out ?_)
      refine Hid.mk ?_
      obtain ⟨c, hc, rfl⟩ := pr_of hdm
      obtain ⟨V, rfl, hV1⟩ := key_form hkey
      have hge := HG3.out
      have HST := Hid.mk (HBE.out.step (V := V) HB.out.blk_inj hc hpm)
      have hB4 := HBz.out.trans (ho2.below (by omega))
      have hca := ((HB.out.all c hc).kept hB4).at_
      have HV2 : Hid (∃ V2, SAt w4 g2 69 38 V2) := Hid.mk (HV2.out.elim fun V2 h => ⟨V2, h.only ho2 (by omega)⟩)
      have s3 := HV3.out.1.only ho2 (by omega)
      have hs31 := HV3.out.2
      have HK := Hid.mk hkey
      have HEN := Hid.mk hen
      have HRG2 := Hid.mk hrg2
      have HLE := Hid.mk hpm.length_eq
      have hcg : c.blk < w.heap.size := (HB.out.all c hc).at_.lt
      clear HR HBE hkey hen hrg2 hpm hdm HV3
      go_wp2_with (refine wl_value rfl (exec_entryP rfl rfl HEN.out) ?_; refine Hid.out ?_)
      refine Hid.mk ?_
      go_wp2_with (refine wl_alO rfl rfl zeroFm ?_; intro g5 w5 hg5 s5 hB5; refine Hid.out ?_)
      refine Hid.mk ?_
      have s3 := s3.kept hB5
      have hca := hca.kept hB5
      have HV2 : Hid (∃ V2, SAt w5 g2 69 38 V2) := Hid.mk (HV2.out.elim fun V2 h => ⟨V2, h.kept hB5⟩)
      have hB5' := hB4.trans (hB5.mono hB4.size)
      have hgs : w.heap.size ≤ g5 := Nat.le_trans hB4.size hg5
      have hr4 : r < g5 := Nat.lt_of_lt_of_le HRG2.out.lt.2 hg5
      have HRG2 := Hid.mk (HRG2.out.kept hB5)
      clear hB5 hg5 hB4
      go_wp2_with (refine st_stO (V := V) (g := g5) rfl rfl isFm hV1 s5 rfl rfl ?_; intro w6 s6 ho6; refine Hid.out ?_)
      refine Hid.mk ?_
      have s3 := s3.only ho6 (by omega)
      have hca := hca.only ho6 (by omega)
      have HV2 : Hid (∃ V2, SAt w6 g2 69 38 V2) := Hid.mk (HV2.out.elim fun V2 h => ⟨V2, h.only ho6 (by omega)⟩)
      have hB6 := hB5'.trans (ho6.below hgs)
      have HRG2 := Hid.mk (HRG2.out.block (ho6.block m (by have := HRG2.out.ne; have := HMA.out; have h3 : m < w.heap.size := (by obtain ⟨es, cl, e, _⟩ := HMA.out; exact heap_lt e); omega)) (ho6.block r (by omega)))
      clear s5 ho6 hB5'
      go_wp2_with (refine wl_value rfl (exec_fhp 1 (by decide) rfl rfl) ?_; refine Hid.out ?_)
      refine Hid.mk ?_
      go_wp2_with (refine wl_value rfl (exec_ld rfl rfl (ldP (hp_num hca))) ?_; refine Hid.out ?_)
      refine Hid.mk ?_
      by_cases hlt : c.num < n
      · have hlt' := hlt
        go_wp2_with (refine wl_value rfl (exec_ltT (m := c.num) (n := n) rfl rfl rfl hlt') ?_; refine Hid.out ?_)
        refine Hid.mk ?_
        have HBE := Hid.mk (HST.out.1 hlt HK.out)
        clear hlt hlt'
        go_upto_region 7 with fail
        have hg35 : g5 ≠ g3 := by omega
        have hg3c : c.blk ≠ g3 := by omega
        refine wp_region3 (Touch (fun k => k = g3) w6) (w6.heap.size)
            ([(g3, once (SC 38 V3) 69 5 (SC 38 V))] : List (Nat × Cont))
            [kv (.agg (SC 38 V)), kv (.pointer (some ⟨c.blk, 0, none⟩)), kv (.pointer (some ⟨c.blk, 0, none⟩)), kv (.pointer (some ⟨c.blk, 1, none⟩)), kv (.int .i64 c.num), .val fun _ => True, kv (.int .i64 c.num)]
            [.none, .none, .none, .none, .none, .base 0 1, .none]
            [some 27, some 28, some 29, some 30, some 31, none, some 4]
            [(5, .pointer (some ⟨g5, 0, none⟩)), (6, .pointer (some ⟨c.blk, 0, none⟩)), (3, .pointer (some ⟨g3, 0, none⟩))]
            [[], [], [.slot 1], [.slot 2], [.slot 3], [.slot 0, .base 0 0], [.slot 4]]
            [.slot 6, .base 0 1] [27, 28, 29, 30, 31, 4]
            rfl (by kernel_rfl) ⟨rfl, rfl, rfl, trivial⟩ (Touch.drew (Touch.refl _ _)) (Nat.le_refl _) ⟨⟨s3.lt, obIn s3⟩, trivial⟩ ⟨trivial, trivial⟩ (touch_S (Nat.le_refl _))
            ⟨
            (fun QQ aa ww own hS hBg fr kn => .inl ⟨trivial, fun K hK => wp_value (look_st rfl isFm (s6.tou hS hg35) fr.1) (hK _ _ ⟨Touch.refl _ _, rfl⟩)⟩),
            (fun QQ aa ww own hS hBg fr kn => .inl ⟨trivial, fun K hK => wp_value (exec_move rfl fr.2.1) (hK _ _ ⟨Touch.refl _ _, rfl⟩)⟩),
            (fun QQ aa ww own hS hBg fr kn => .inl ⟨trivial, fun K hK => wp_value (exec_nilc rfl kn.1) (hK _ _ ⟨Touch.refl _ _, rfl⟩)⟩),
            (fun QQ aa ww own hS hBg fr kn => .inl ⟨trivial, fun K hK => wp_value (exec_fhp 1 (by decide) rfl kn.1) (hK _ _ ⟨Touch.refl _ _, rfl⟩)⟩),
            (fun QQ aa ww own hS hBg fr kn => .inl ⟨trivial, fun K hK => wp_value (exec_ld rfl kn.1 (ldP (hp_num (hca.tou hS hg3c)))) (hK _ _ ⟨Touch.refl _ _, rfl⟩)⟩),
            (fun QQ aa ww own hS hBg fr kn => .inl ⟨trivial, fun K hK => act_st7 rfl isFm hV1 fr.2.2.1 kn.1 (obAt kn.2.1) (fun w2 hg ho => hK _ _ ⟨⟨touch_only ho, obIn hg⟩, trivial⟩)⟩),
            (fun QQ aa ww own hS hBg fr kn => .inl ⟨trivial, fun K hK => wp_value (exec_assign rfl kn.1) (hK _ _ ⟨Touch.refl _ _, rfl⟩)⟩),
            trivial⟩ ?_
        intro vs own z2 hT2 hsz kn inj
        have e4 : vs 4 = .int .i64 c.num := kn.1
        have s3' : SAt z2 g3 69 38 V := obAt kn.2.1
        have HV2 : Hid (∃ V2, SAt z2 g2 69 38 V2) := Hid.mk (HV2.out.elim fun V2 h => ⟨V2, h.tou hT2 (by omega)⟩)
        have hB7 := hB6.trans (below_touch hT2 (by omega) hB6.size)
        have hml : m < w.heap.size := (by obtain ⟨es, cl, e, _⟩ := HMA.out; exact heap_lt e)
        have HRG2 := Hid.mk (HRG2.out.block (hT2.block m HRG2.out.lt.1 (by omega)) (hT2.block r HRG2.out.lt.2 (by omega)))
        clear kn inj hsz s3 hT2
        simp only [putAll, Act.put, List.setIfInBounds_toArray, List.set_cons_zero, List.set_cons_succ, e4]
        clear e4
        go_wp2_with fail
        go_roundg left'.length
        case rel => exact ⟨left', c.num, V, Hid.mk rfl, rfl, HBE, HRG2, Hid.mk hB7, HV2, Hid.mk ⟨s3', hV1⟩⟩
        case measure => have h1 := HLE.out; have h2 := HL0.out; simp at h1; omega
      · have hlt' := hlt
        go_wp2_with (refine wl_value rfl (exec_ltF (m := c.num) (n := n) rfl rfl rfl hlt') ?_; refine Hid.out ?_)
        refine Hid.mk ?_
        have HBE := Hid.mk (HST.out.2 hlt)
        clear hlt hlt'
        go_wp2_with fail
        go_roundg left'.length
        case rel => exact ⟨left', n, V3, Hid.mk rfl, rfl, HBE, HRG2, Hid.mk hB6, HV2, Hid.mk ⟨s3, hs31⟩⟩
        case measure => have h1 := HLE.out; have h2 := HL0.out; simp at h1; omega
theorem en_first (args : Array Value) (w : World) : (callFunc 41 args).run Try.prog w = .ok (.enter 41 args) w := by kernel_rfl
end Go.Proofs.Ythnlfjkpiohooaa
/-
  Own text. When the next heap is late; a new box; the time.
-/
namespace Go.Proofs.Ythnlfjkpiohooaa
open Go.RowKit Go.Proofs
set_option maxRecDepth 100000
theorem MvAt.kept {w w' : World} {mv : Value} {cs : List Ch} (h : MvAt w mv cs) (hb : Below w.heap.size w w') : MvAt w' mv cs := by
  rcases h with h | ⟨m, e, h⟩
  · exact .inl h
  · exact .inr ⟨m, e, h.kept hb⟩
theorem BoxAt.kept {w w' : World} {B : Nat} {N : Nat → Prop} {g : Nat} {mv : Value} {b : Bx} {begun : Int} {cs : List Ch} (h : BoxAt w B N g mv b begun cs) (hb : Below w.heap.size w w') : BoxAt w' B N g mv b begun cs :=
  { h with at_ := h.at_.kept hb, map := h.map.kept hb, all := fun c hc => (h.all c hc).kept hb }
theorem exec_lookK {a : Act} {o : Oper} {w : World} {x y : Operand} {m : Nat} {L : List (Fam × Nat)} {F : Fam} {q : Nat} (ho : o.op = .lookup 61 x y false) (hx : a.eval x = .map (some m)) (hk : KeyIs (a.eval y) F) (hm : MapAt w m L) (hq : hasK L F = some (F, q)) : (execOp a.eval o).run Try.prog w = .ok (.value (.pointer (some ⟨q, 0, none⟩))) w := by
  have hr := run_lookF hm hk false
  unfold lookV at hr
  rw [hq] at hr
  unfold execOp
  simp only [ho, hx, Sem.run_bind, hr, Result.andThen_ok, Sem.run_pure]
  rfl
/-- When the next heap is late. -/
def nextV (b : Bx) : Int := match b.hs with | [] => -1 | h :: _ => h.born + 30000
theorem exec_eqT {a : Act} {o : Oper} {w : World} {x y : Operand} (ho : o.op = .binOp .eql 3 x y 3) {m n : Int} (hx : a.eval x = .int .i64 m) (hy : a.eval y = .int .i64 n) (h : m = n) : (execOp a.eval o).run Try.prog w = .ok (.value (.bool true)) w := by
  have := cmp_eq (w := w) ho hx hy
  rwa [decide_eq_true h] at this
theorem exec_eqF {a : Act} {o : Oper} {w : World} {x y : Operand} (ho : o.op = .binOp .eql 3 x y 3) {m n : Int} (hx : a.eval x = .int .i64 m) (hy : a.eval y = .int .i64 n) (h : m ≠ n) : (execOp a.eval o).run Try.prog w = .ok (.value (.bool false)) w := by
  have := cmp_eq (w := w) ho hx hy
  rwa [decide_eq_false h] at this
set_option maxHeartbeats 8000000 in
theorem Next_run {w : World} {B : Nat} {N : Nat → Prop} {g : Nat} {mv : Value} {b : Bx} {begun : Int} {cs : List Ch} (h : BoxAt w B N g mv b begun cs) : Calls Try.prog 20 #[.pointer (some ⟨g, 0, none⟩)] w fun e w' => e = .returned (.int .i64 (nextV b)) ∧ Below w.heap.size w w' := by
  have c0 := bx_map h.at_
  have hm := h.map
  have hnil := run_nilB ⟨g, 0, none⟩
  have hhs := h.hs
  cases hcs : cs with
  | nil =>
    have hv : nextV b = -1 := by unfold nextV; rw [← hhs, hcs]; rfl
    rw [hv]
    rcases hm with ⟨rfl, _⟩ | ⟨m, rfl, hma⟩
    · clear h hhs hv
      go_enter Try.func20, Try.ntmps20
      go_wp2_with (refine wl_value rfl (exec_fbx 0 (by decide) rfl rfl) ?_; refine Hid.out ?_)
      refine Hid.mk ?_
      go_wp2_with (refine wl_value rfl (exec_ld rfl rfl (ldM c0)) ?_; refine Hid.out ?_)
      refine Hid.mk ?_
      go_wp2_with (refine wl_value rfl (exec_lenM0 rfl rfl) ?_; refine Hid.out ?_)
      refine Hid.mk ?_
      go_wp2_with (refine wl_value rfl (exec_eqT (m := 0) (n := 0) rfl rfl rfl rfl) ?_; refine Hid.out ?_)
      refine Hid.mk ?_
      go_wp2_with fail
      go_ret
      exact ⟨rfl, Below.refl _ _⟩
    · have hma : MapAt w m [] := by rw [hcs] at hma; exact hma
      clear h hhs hv
      go_enter Try.func20, Try.ntmps20
      go_wp2_with (refine wl_value rfl (exec_fbx 0 (by decide) rfl rfl) ?_; refine Hid.out ?_)
      refine Hid.mk ?_
      go_wp2_with (refine wl_value rfl (exec_ld rfl rfl (ldM c0)) ?_; refine Hid.out ?_)
      refine Hid.mk ?_
      go_wp2_with (refine wl_value rfl (exec_lenM rfl hma rfl) ?_; refine Hid.out ?_)
      refine Hid.mk ?_
      go_wp2_with (refine wl_value rfl (exec_eqT (m := (([] : List (Fam × Nat)).length : Int)) (n := 0) rfl rfl rfl rfl) ?_; refine Hid.out ?_)
      refine Hid.mk ?_
      go_wp2_with fail
      go_ret
      exact ⟨rfl, Below.refl _ _⟩
  | cons c0' l =>
    rcases hm with ⟨_, e⟩ | ⟨m, rfl, hma⟩
    · rw [hcs] at e; cases e
    · have hv : nextV b = c0'.h.born + 30000 := by unfold nextV; rw [← hhs, hcs]; rfl
      rw [hv]
      have hc0 : c0' ∈ cs := by rw [hcs]; simp
      have ho := h.ok hc0
      have hT := h.inv.t1
      have HW : Hid (IntKind.i64.wrap (c0'.h.born + 30000) = c0'.h.born + 30000) := Hid.mk (wrap_id (by have := ho.1; omega) (by have := ho.2.1; omega))
      have HK : Hid (hasK (prs cs) c0'.h.fam = some (c0'.h.fam, c0'.blk)) := Hid.mk (by rw [hcs]; unfold hasK prs; rw [List.map_cons, List.find?_cons_of_pos (by simp)])
      have hlen : ((prs cs).length : Int) ≠ 0 := by rw [hcs]; unfold prs; rw [List.map_cons, List.length_cons]; omega
      have hma : MapAt w m (prs cs) := hma
      have HB := Hid.mk h
      have hca := (h.all c0' hc0).at_
      have HCS := Hid.mk hcs
      clear h hhs hv hc0 ho hT hcs
      go_enter Try.func20, Try.ntmps20
      go_wp2_with (refine wl_value rfl (exec_fbx 0 (by decide) rfl rfl) ?_; refine Hid.out ?_)
      refine Hid.mk ?_
      go_wp2_with (refine wl_value rfl (exec_ld rfl rfl (ldM c0)) ?_; refine Hid.out ?_)
      refine Hid.mk ?_
      go_wp2_with (refine wl_value rfl (exec_lenM rfl hma rfl) ?_; refine Hid.out ?_)
      refine Hid.mk ?_
      go_wp2_with (refine wl_value rfl (exec_eqF (m := ((prs cs).length : Int)) (n := 0) rfl rfl rfl hlen) ?_; refine Hid.out ?_)
      refine Hid.mk ?_
      go_upto_region 5 with fail
      have hgl : g < w.heap.size := HB.out.at_.lt
      refine wp_region3 (Below w.heap.size w) (w.heap.size)
          ([] : List (Nat × Cont))
          [kv (.pointer (some ⟨g, 0, none⟩)), kv (.pointer (some ⟨g, 0, none⟩)), kv (.pointer (some ⟨g, 0, none⟩)), kv (.map (some m)), kv (.pointer (some ⟨g, 0, none⟩)), .val fun v => KeyIs v c0'.h.fam, kv (.pointer (some ⟨c0'.blk, 0, none⟩)), kv (.int .i64 (c0'.h.born + 30000)), kv (.int .i64 (c0'.h.born + 30000))]
          [.none, .none, .none, .none, .none, .none, .none, .none, .none]
          [some 11, some 12, some 13, some 14, some 15, some 16, some 17, some 18, some 2]
          [(0, .pointer (some ⟨g, 0, none⟩))]
          [[], [.slot 0], [.slot 1], [.slot 2], [], [.slot 4], [.slot 3, .slot 5], [.slot 6], [.slot 7]]
          [.slot 8] [11, 12, 13, 14, 15, 16, 17, 18, 2]
          rfl (by kernel_rfl) ⟨rfl, trivial⟩ ((Below.refl _ w).drew) (Nat.le_refl _) trivial trivial (below_GcW (Nat.le_refl _))
          ⟨
          (fun QQ aa ww own hS hBg fr kn => .inl ⟨trivial, fun K hK => wp_value (exec_move rfl fr.1) (hK _ _ ⟨Touch.refl _ _, rfl⟩)⟩),
          (fun QQ aa ww own hS hBg fr kn => .inl ⟨trivial, fun K hK => wp_value (exec_nilc rfl kn.1) (hK _ _ ⟨Touch.refl _ _, rfl⟩)⟩),
          (fun QQ aa ww own hS hBg fr kn => .inl ⟨trivial, fun K hK => wp_value (exec_fbx 0 (by decide) rfl kn.1) (hK _ _ ⟨Touch.refl _ _, rfl⟩)⟩),
          (fun QQ aa ww own hS hBg fr kn => .inl ⟨trivial, fun K hK => wp_value (exec_ld rfl kn.1 (ldM ((hS.cell (p := ⟨g, 0, none⟩) hgl).trans c0))) (hK _ _ ⟨Touch.refl _ _, rfl⟩)⟩),
          (fun QQ aa ww own hS hBg fr kn => .inl ⟨trivial, fun K hK => wp_value (exec_move rfl fr.1) (hK _ _ ⟨Touch.refl _ _, rfl⟩)⟩),
          (fun QQ aa ww own hS hBg fr kn => .inl ⟨trivial, fun K hK => stepp en_first rfl (args1 kn.1) ((first_run (HB.out.kept hS) HCS.out).mono (fun e w' ⟨⟨k, he, hk⟩, hb⟩ => ⟨k, he, And.intro hk hb⟩)) (R := fun v w' => KeyIs v c0'.h.fam ∧ Below ww.heap.size ww w') (fun v w' hr => hK _ _ ⟨touch_below hr.2, hr.1⟩)⟩),
          (fun QQ aa ww own hS hBg fr kn => .inl ⟨trivial, fun K hK => wp_value (exec_lookK rfl kn.1 kn.2.1 (hma.kept hS) HK.out) (hK _ _ ⟨Touch.refl _ _, rfl⟩)⟩),
          (fun QQ aa ww own hS hBg fr kn => .inl ⟨trivial, fun K hK => stepc en_due rfl (args1 kn.1) ((due_run (hca.kept hS) HW.out).mono (fun e w' he => ⟨he.1, by rw [he.2]; exact Below.refl _ _⟩)) (fun w' hb => hK _ _ ⟨touch_below hb, rfl⟩)⟩),
          (fun QQ aa ww own hS hBg fr kn => .inl ⟨trivial, fun K hK => wp_value (exec_assign rfl kn.1) (hK _ _ ⟨Touch.refl _ _, rfl⟩)⟩),
          trivial⟩ ?_
      intro vs own z2 hB2 hsz kn inj
      have e2 : vs 2 = .int .i64 (c0'.h.born + 30000) := kn.1
      clear kn inj hsz
      simp only [putAll, Act.put, List.setIfInBounds_toArray, List.set_cons_zero, List.set_cons_succ, e2]
      clear e2
      go_wp2_with fail
      go_ret
      exact ⟨rfl, hB2⟩
theorem en_Next (args : Array Value) (w : World) : (callFunc 20 args).run Try.prog w = .ok (.enter 20 args) w := by kernel_rfl
theorem en_Waiting (args : Array Value) (w : World) : (callFunc 18 args).run Try.prog w = .ok (.enter 18 args) w := by kernel_rfl
theorem en_Held (args : Array Value) (w : World) : (callFunc 19 args).run Try.prog w = .ok (.enter 19 args) w := by kernel_rfl
theorem run_bx0 (w : World) : (Instr.build 63 #[]).run Try.prog w = .ok (.agg (SC 3 (bxV (.map none) 0 0))) w := by kernel_rfl
theorem exec_bx0 {a : Act} {o : Oper} {w : World} (ho : o.op = .build 63 #[]) : (execOp a.eval o).run Try.prog w = .ok (.value (.agg (SC 3 (bxV (.map none) 0 0)))) w := by
  unfold execOp
  simp only [ho, List.map_toArray, List.map_nil, Sem.run_bind, run_bx0, Result.andThen_ok, Sem.run_pure]
theorem box_new {w : World} {B : Nat} {N : Nat → Prop} {g : Nat} (h : SAt w g 63 3 (bxV (.map none) 0 0)) (hB : B ≤ g) (hN : ¬ N g) : BoxAt w B N g (.map none) noB 0 [] :=
  ⟨inv_no, h, .inl ⟨rfl, rfl⟩, rfl, fun c hc => (by cases hc), List.Pairwise.nil, List.Pairwise.nil, fun c hc => (by cases hc), ⟨Int.le_refl _, by decide⟩, hB, fun c hc => (by cases hc), hN, fun k hk => (by cases hk)⟩
set_option maxHeartbeats 4000000 in
theorem New_run (w : World) : Calls Try.prog 13 #[] w fun e w' => (∃ g, e = .returned (.pointer (some ⟨g, 0, none⟩)) ∧ w.heap.size ≤ g ∧ SAt w' g 63 3 (bxV (.map none) 0 0)) ∧ Below w.heap.size w w' := by
  go_enter Try.func13, Try.ntmps13
  go_wp2_with (refine wl_value rfl (exec_bx0 rfl) ?_; refine Hid.out ?_)
  refine Hid.mk ?_
  go_wp2_with (refine wl_boxO (V := bxV (.map none) 0 0) rfl rfl isBx rfl ?_; intro g1 w1 hg1 r1 hB1; refine Hid.out ?_)
  refine Hid.mk ?_
  go_wp2_with fail
  go_ret
  exact ⟨⟨g1, rfl, hg1, r1⟩, hB1⟩
theorem en_New (args : Array Value) (w : World) : (callFunc 13 args).run Try.prog w = .ok (.enter 13 args) w := by kernel_rfl
theorem exec_max {a : Act} {o : Oper} {w : World} {x y : Operand} (ho : o.op = .call { callee := .builtin .max, args := #[x, y], argTypes := #[3, 3] }) {m n : Int} (hx : a.eval x = .int .i64 m) (hy : a.eval y = .int .i64 n) : (execOp a.eval o).run Try.prog w = .ok (.value (.int .i64 (max m n))) w := by
  have h : (if n > m then n else m) = max m n := by split <;> omega
  simp [execOp, ho, resolve, invoke, builtin, hx, hy, run_max_int2, h]
theorem exec_min {a : Act} {o : Oper} {w : World} {x y : Operand} (ho : o.op = .call { callee := .builtin .min, args := #[x, y], argTypes := #[3, 3] }) {m n : Int} (hx : a.eval x = .int .i64 m) (hy : a.eval y = .int .i64 n) : (execOp a.eval o).run Try.prog w = .ok (.value (.int .i64 (min m n))) w := by
  have h : (if n < m then n else m) = min m n := by split <;> omega
  simp [execOp, ho, resolve, invoke, builtin, hx, hy, run_min_int2, h]
theorem wl_stF {ops : Array Oper} {rest : List Oper} {o : Oper} {a : Act} {w : World} {x y : Operand} {Q : Exit → Act → World → Prop} {t ty : TypeId} {n g f : Nat} {V V' : Nat → Value} {z : Value} (ho : o.op = .store t x y) (hw : Region.wanted o (yielded ops a.tmps) = true) (hx : a.eval x = .pointer (some ⟨g, f, none⟩)) (hy : a.eval y = z) (hf : f < n)
    (hr : ∀ w : World, w.cell? ⟨g, f, none⟩ = some (V f) → w.frozen? ⟨g, f, none⟩ = false → (Instr.storeAt t (.pointer (some ⟨g, f, none⟩)) z).run Try.prog w = .ok () (w.setCell ⟨g, f, none⟩ z)) (hg : SAt w g ty n V) (hV : ∀ i, i < n → (if i = f then z else V i) = V' i)
    (h : ∀ w', SAt w' g ty n V' → Only g w w' → wpList Try.prog ops Q rest (a.put o.dst undef) w') : wpList Try.prog ops Q (o :: rest) a w := by
  refine wl_act hw ?_
  have hr' := hr w (hg.at f hf) (frozen_of_row w _ f _ _ hg)
  unfold Oper.wp execOp
  simp only [ho, hx, hy, Sem.run_bind, hr', Result.andThen_ok, Sem.run_pure, Oper.upon]
  exact h _ ((hg.set f z hf).congr hV) only_set
set_option maxHeartbeats 4000000 in
theorem tell_run {w : World} {g : Nat} {mv : Value} {time begun now : Int} (h : SAt w g 63 3 (bxV mv time begun)) : Calls Try.prog 53 #[.pointer (some ⟨g, 0, none⟩), .int .i64 now] w fun e w' => e = .returned (.tuple #[]) ∧ SAt w' g 63 3 (bxV mv (timeF time now) begun) ∧ Only g w w' := by
  have ct := bx_time h
  go_enter Try.func53, Try.ntmps53
  go_wp2_with (refine wl_value rfl (exec_fbx 1 (by decide) rfl rfl) ?_; refine Hid.out ?_)
  refine Hid.mk ?_
  go_wp2_with (refine wl_value rfl (exec_ld rfl rfl (ldP ct)) ?_; refine Hid.out ?_)
  refine Hid.mk ?_
  go_wp2_with (refine wl_value rfl (exec_min (m := now) (n := 4611686018427387904) rfl rfl rfl) ?_; refine Hid.out ?_)
  refine Hid.mk ?_
  go_wp2_with (refine wl_value rfl (exec_max (m := time) (n := min now 4611686018427387904) rfl rfl rfl) ?_; refine Hid.out ?_)
  refine Hid.mk ?_
  go_wp2_with (refine wl_value rfl (exec_fbx 1 (by decide) rfl rfl) ?_; refine Hid.out ?_)
  refine Hid.mk ?_
  go_wp2_with (refine wl_stF (f := 1) (V' := bxV mv (timeF time now) begun) rfl rfl rfl rfl (by decide) (stI (max time (min now 4611686018427387904))) h (fun i hi => (match i, hi with | 0, _ => rfl | 1, _ => rfl | 2, _ => rfl)) ?_; intro w2 s2 ho2; refine Hid.out ?_)
  refine Hid.mk ?_
  go_wp2_with fail
  exact bodyPost_end (results_none rfl _ _ _) rfl ⟨rfl, s2, ho2⟩
theorem en_tell (args : Array Value) (w : World) : (callFunc 53 args).run Try.prog w = .ok (.enter 53 args) w := by kernel_rfl
end Go.Proofs.Ythnlfjkpiohooaa
/-
  Own text. Heaps that are late: whether one is; a map's late entries deleted.
-/
namespace Go.Proofs.Ythnlfjkpiohooaa
open Go.RowKit Go.Proofs
set_option maxRecDepth 100000
theorem exec_callC {f : FuncId} (hc : ∀ args w, (callFunc f args).run Try.prog w = .ok (.enter f args) w) {x : Operand} (xs : Array Operand) (ts : Array TypeId) {o : Oper} {a : Act} {w : World} {fr : Array Value} (ho : o.op = .call { callee := .value x, args := xs, argTypes := ts }) (hx : a.eval x = .func (.func f) #[] fr) :
    (execOp a.eval o).run Try.prog w = .ok (.enter f (xs.map a.eval ++ fr)) w := by
  unfold execOp
  rw [ho]
  simp only [resolve, Sem.run_bind, hx]
  generalize xs.map a.eval = args
  simp [Deferred.ofValue, invoke, go_sem, hc]
theorem wl_callC {ops : Array Oper} {rest : List Oper} {Q : Exit → Act → World → Prop} {f : FuncId} (hc : ∀ args w, (callFunc f args).run Try.prog w = .ok (.enter f args) w) {x : Operand} {xs : Array Operand} {ts : Array TypeId} {o : Oper} {a : Act} {w : World} {fr : Array Value} {R : Value → World → Prop} (ho : o.op = .call { callee := .value x, args := xs, argTypes := ts }) (hw : Region.wanted o (yielded ops a.tmps) = true) (hx : a.eval x = .func (.func f) #[] fr)
    {us vs : Array Value} (hu : xs.map a.eval = us) (hv : us ++ fr = vs) (hC : Calls Try.prog f vs w fun r w' => ∃ v, r = .returned v ∧ R v w') (h : ∀ v w', R v w' → wpList Try.prog ops Q rest (a.put o.dst v) w') : wpList Try.prog ops Q (o :: rest) a w := by
  refine wl_act hw (wp_enter (exec_callC hc xs ts ho hx) ?_)
  rw [hu, hv]
  exact hC.mono (fun e w' ⟨v, he, hr⟩ => ⟨v, he, h v w' hr⟩)
theorem exec_mkC {a : Act} {o : Oper} {w : World} {f : FuncId} {x : Operand} (ho : o.op = .makeFunc (.func f) #[] #[x]) {v : Value} (hx : a.eval x = v) : (execOp a.eval o).run Try.prog w = .ok (.value (.func (.func f) #[] #[v])) w := by
  unfold execOp
  subst hx
  simp only [ho, List.map_toArray, List.map_cons, List.map_nil]
  generalize a.eval x = v
  simp [go_sem]
theorem en_late (args : Array Value) (w : World) : (callFunc 67 args).run Try.prog w = .ok (.enter 67 args) w := by kernel_rfl
set_option maxHeartbeats 4000000 in
theorem late_run {w : World} {g1 g q : Nat} {mv : Value} {time begun born num : Int} {hd : Pk} {hv ps : Value} {V : Nat → Value} (c1 : w.cell? ⟨g1, 0, none⟩ = some (.pointer (some ⟨g, 0, none⟩))) (hb : SAt w g 63 3 (bxV mv time begun)) (hh : SAt w q 89 49 (hpV born num hd hv ps)) (hw : IntKind.i64.wrap (born + 30000) = born + 30000) : Calls Try.prog 67 #[.agg (SC 38 V), .pointer (some ⟨q, 0, none⟩), .pointer (some ⟨g1, 0, none⟩)] w fun e w' => e = .returned (.bool (decide (born + 30000 ≤ time))) ∧ Below w.heap.size w w' := by
  have HW := Hid.mk hw
  have ct := bx_time hb
  have hgl := heap_lt hb
  have hgl1 := World.block_lt_of_cell? _ _ c1
  clear hw
  go_enter Try.func67, Try.ntmps67
  go_wp2_with (refine wl_boxO (V := V) rfl rfl isFm rfl ?_; intro g3 w3 hg3 r3 hB3; refine Hid.out ?_)
  refine Hid.mk ?_
  have c1 := (hB3.cell (p := ⟨g1, 0, none⟩) hgl1).trans c1
  have ct := (hB3.cell (p := ⟨g, 1, none⟩) hgl).trans ct
  have hh := hh.kept hB3
  have l1 := Nat.lt_of_lt_of_le hgl1 hB3.size
  have l2 := Nat.lt_of_lt_of_le hgl hB3.size
  go_upto_region 1 with fail
  refine wp_region3 (Below w3.heap.size w3) (w3.heap.size)
      ([] : List (Nat × Cont))
      [kv (.pointer (some ⟨q, 0, none⟩)), kv (.int .i64 (born + 30000)), kv (.pointer (some ⟨g, 0, none⟩)), kv (.pointer (some ⟨g, 0, none⟩)), kv (.pointer (some ⟨g, 1, none⟩)), kv (.int .i64 time), kv (.bool (decide (born + 30000 ≤ time))), kv (.bool (decide (born + 30000 ≤ time)))]
      [.none, .none, .none, .none, .none, .none, .none, .none]
      [some 6, some 7, some 8, some 9, some 10, some 11, some 12, some 5]
      [(1, .pointer (some ⟨q, 0, none⟩)), (2, .pointer (some ⟨g1, 0, none⟩))]
      [[], [.slot 0], [], [.slot 2], [.slot 3], [.slot 4], [.slot 1, .slot 5], [.slot 6]]
      [.slot 7] [6, 7, 8, 9, 10, 11, 12, 5]
      rfl (by kernel_rfl) ⟨rfl, rfl, trivial⟩ ((Below.refl _ w3).drew) (Nat.le_refl _) trivial trivial (below_GcW (Nat.le_refl _))
      ⟨
      (fun QQ aa ww own hS hBg fr kn => .inl ⟨trivial, fun K hK => wp_value (exec_move rfl fr.1) (hK _ _ ⟨Touch.refl _ _, rfl⟩)⟩),
      (fun QQ aa ww own hS hBg fr kn => .inl ⟨trivial, fun K hK => stepc en_due rfl (args1 kn.1) ((due_run (hh.kept hS) HW.out).mono (fun e w' he => ⟨he.1, by rw [he.2]; exact Below.refl _ _⟩)) (fun w' hb => hK _ _ ⟨touch_below hb, rfl⟩)⟩),
      (fun QQ aa ww own hS hBg fr kn => .inl ⟨trivial, fun K hK => wp_value (exec_ld rfl fr.2.1 (ldB ((hS.cell (p := ⟨g1, 0, none⟩) l1).trans c1))) (hK _ _ ⟨Touch.refl _ _, rfl⟩)⟩),
      (fun QQ aa ww own hS hBg fr kn => .inl ⟨trivial, fun K hK => wp_value (exec_nilc rfl kn.1) (hK _ _ ⟨Touch.refl _ _, rfl⟩)⟩),
      (fun QQ aa ww own hS hBg fr kn => .inl ⟨trivial, fun K hK => wp_value (exec_fbx 1 (by decide) rfl kn.1) (hK _ _ ⟨Touch.refl _ _, rfl⟩)⟩),
      (fun QQ aa ww own hS hBg fr kn => .inl ⟨trivial, fun K hK => wp_value (exec_ld rfl kn.1 (ldP ((hS.cell (p := ⟨g, 1, none⟩) l2).trans ct))) (hK _ _ ⟨Touch.refl _ _, rfl⟩)⟩),
      (fun QQ aa ww own hS hBg fr kn => .inl ⟨trivial, fun K hK => wp_value (cmp_le rfl kn.1 kn.2.1) (hK _ _ ⟨Touch.refl _ _, rfl⟩)⟩),
      (fun QQ aa ww own hS hBg fr kn => .inl ⟨trivial, fun K hK => wp_value (exec_assign rfl kn.1) (hK _ _ ⟨Touch.refl _ _, rfl⟩)⟩),
      trivial⟩ ?_
  intro vs own z2 hB2 hsz kn inj
  have e5 : vs 5 = .bool (decide (born + 30000 ≤ time)) := kn.1
  clear kn inj hsz
  simp only [putAll, Act.put, List.setIfInBounds_toArray, List.set_cons_zero, List.set_cons_succ, e5]
  clear e5
  go_wp2_with fail
  go_ret
  exact ⟨rfl, hB3.trans (hB2.mono hB3.size)⟩
/-- The heap of an entry. -/
def chOf (cs : List Ch) (d : Fam × Nat) : Option Ch := cs.find? (fun c => decide (c.blk = d.2))
theorem chOf_at {cs : List Ch} (hn : cs.Pairwise (fun c d => c.blk ≠ d.blk)) {c : Ch} (hc : c ∈ cs) (F : Fam) : chOf cs (F, c.blk) = some c := by
  unfold chOf
  induction cs with
  | nil => cases hc
  | cons x cs ih =>
    rw [List.pairwise_cons] at hn
    rcases List.mem_cons.1 hc with rfl | hc
    · rw [List.find?_cons_of_pos (by simp)]
    · rw [List.find?_cons_of_neg (by simpa using hn.1 c hc)]
      exact ih hn.2 hc
def stayD (cs : List Ch) (t : Int) (d : Fam × Nat) : Bool := match chOf cs d with
  | some c => staysF t c.h
  | none => true
def stayC (t : Int) (c : Ch) : Bool := staysF t c.h
theorem stayD_at {cs : List Ch} (hn : cs.Pairwise (fun c d => c.blk ≠ d.blk)) {c : Ch} (hc : c ∈ cs) (t : Int) : stayD cs t (c.h.fam, c.blk) = stayC t c := by
  unfold stayD
  rw [chOf_at hn hc]
  rfl
theorem prs_filter {cs : List Ch} (hn : cs.Pairwise (fun c d => c.blk ≠ d.blk)) (t : Int) : (prs cs).filter (stayD cs t) = prs (cs.filter (stayC t)) := by
  unfold prs
  rw [List.filter_map]
  congr 1
  exact List.filter_congr (fun c hc => stayD_at hn hc t)
/-- What is left in a map whose entries in 'left' are still to be met. -/
def midL (cs : List Ch) (t : Int) (left : List (Fam × Nat)) : List (Fam × Nat) := (prs cs).filter (fun d => decide (d ∈ left) || stayD cs t d)
theorem mid_all (cs : List Ch) (t : Int) : midL cs t (prs cs) = prs cs := List.filter_eq_self.2 (fun d hd => by simp [hd])
theorem mid_none {cs : List Ch} (hn : cs.Pairwise (fun c d => c.blk ≠ d.blk)) (t : Int) : midL cs t [] = prs (cs.filter (stayC t)) := by
  rw [← prs_filter hn]
  exact List.filter_congr (fun d _ => by simp)
theorem nodup_fst {L : List (Fam × Nat)} (h : (L.map (·.1)).Nodup) {c d : Fam × Nat} (hc : c ∈ L) (hd : d ∈ L) (e : c.1 = d.1) : c = d := by
  induction L with
  | nil => cases hc
  | cons x L ih =>
    rw [List.map_cons, List.nodup_cons] at h
    rcases List.mem_cons.1 hc with h1 | h1 <;> rcases List.mem_cons.1 hd with h2 | h2
    · rw [h1, h2]
    · subst h1; exact absurd (by rw [e]; exact List.mem_map_of_mem h2) h.1
    · subst h2; exact absurd (by rw [← e]; exact List.mem_map_of_mem h1) h.1
    · exact ih h.2 h1 h2
theorem mid_keep {cs : List Ch} {t : Int} {left left' : List (Fam × Nat)} {c : Fam × Nat} (hp : left.Perm (c :: left')) (hs : stayD cs t c = true) : midL cs t left = midL cs t left' := by
  refine List.filter_congr (fun d _ => ?_)
  by_cases e : d = c
  · subst e; rw [hs, Bool.or_true, Bool.or_true]
  · congr 1
    rw [decide_eq_decide, hp.mem_iff, List.mem_cons]
    exact ⟨fun h => h.resolve_left e, .inr⟩
theorem mid_drop {cs : List Ch} {t : Int} {left left' : List (Fam × Nat)} {c : Fam × Nat} (hn : ((prs cs).map (·.1)).Nodup) (hc : c ∈ prs cs) (hp : left.Perm (c :: left')) (hl : c ∉ left') (hs : stayD cs t c = false) : (midL cs t left).filter (fun d => !decide (d.1 = c.1)) = midL cs t left' := by
  unfold midL
  rw [List.filter_filter]
  refine List.filter_congr (fun d hd => ?_)
  by_cases e : d = c
  · subst e
    simp [hs, hl]
  · have h1 : d.1 ≠ c.1 := fun h => e (nodup_fst hn hd hc h)
    simp only [h1, decide_false, Bool.not_false, Bool.true_and]
    congr 1
    rw [decide_eq_decide, hp.mem_iff, List.mem_cons]
    exact ⟨fun h => h.resolve_left e, .inr⟩
theorem late_eq (t : Int) (h : Hp) : decide (h.born + 30000 ≤ t) = !staysF t h := by
  unfold staysF
  rw [Bool.eq_iff_iff]
  simp
  omega
end Go.Proofs.Ythnlfjkpiohooaa
/-
  Own text. A map's late entries deleted: maps.DeleteFunc.
-/
namespace Go.Proofs.Ythnlfjkpiohooaa
open Go.RowKit Go.Proofs
set_option maxRecDepth 100000
theorem touch_on {m : Nat} {T : Nat → Prop} {w z z' : World} (h : Touch (fun k => k = m) w z) (h2 : Touch T z z') (hT : ∀ k, k < w.heap.size → T k → k = m) : Touch (fun k => k = m) w z' :=
  ⟨h2.os.trans h.os, h2.tape.trans h.tape, h2.output.trans h.output, Nat.le_trans h.size h2.size, fun k hk hn => (h2.block k (Nat.lt_of_lt_of_le hk h.size) (fun ht => hn (hT k hk ht))).trans (h.block k hk hn)⟩
theorem touch_fresh {m : Nat} {w z z' : World} (h : Touch (fun k => k = m) w z) (h2 : Below z.heap.size z z') : Touch (fun k => k = m) w z' := touch_on h (touch_below h2) (fun _ _ h => h.elim)
theorem touch_only2 {m r : Nat} {w z z' : World} (h : Touch (fun k => k = m) w z) (h2 : Only r z z') (hr : r = m ∨ w.heap.size ≤ r) : Touch (fun k => k = m) w z' := touch_on h (touch_only h2) (fun k hk e => by
  have e : k = r := e
  rcases hr with h | h
  · rw [e, h]
  · omega)
theorem MapAt.ne {w : World} {m b : Nat} {L : List (Fam × Nat)} {ty n : Nat} {V : Nat → Value} (h : MapAt w m L) (hs : SAt w b ty n V) : b ≠ m := by
  obtain ⟨es, cl, h1, _⟩ := h
  intro e
  subst e
  have hs : w.heap[b]? = some (.cells (SC n V) ty (0, 0)) := hs
  rw [hs] at h1
  cases h1
theorem MapAt.neC {w : World} {m : Nat} {L : List (Fam × Nat)} {b o : Nat} {v : Value} (h : MapAt w m L) (hc : w.cell? ⟨b, o, none⟩ = some v) : b ≠ m := by
  obtain ⟨es, cl, h1, _⟩ := h
  intro e
  subst e
  unfold World.cell? at hc
  simp [h1] at hc
theorem cell_tou {w z : World} {m b o : Nat} {v : Value} (h : Touch (fun k => k = m) w z) (hb : b ≠ m) (hc : w.cell? ⟨b, o, none⟩ = some v) : z.cell? ⟨b, o, none⟩ = some v := by
  rw [cell_blk (p := ⟨b, o, none⟩) (h.block b (World.block_lt_of_cell? _ _ hc) hb)]
  exact hc
theorem BoxAt.mapS {w : World} {B : Nat} {N : Nat → Prop} {g m : Nat} {b : Bx} {begun : Int} {cs : List Ch} (h : BoxAt w B N g (.map (some m)) b begun cs) : MapAt w m (prs cs) := by
  rcases h.map with ⟨e, _⟩ | ⟨m', e, hm⟩
  · cases e
  · cases e; exact hm
set_option maxHeartbeats 16000000 in
theorem DeleteFunc_run {w : World} {B : Nat} {N : Nat → Prop} {g g1 m : Nat} {b : Bx} {begun : Int} {cs : List Ch} (h : BoxAt w B N g (.map (some m)) b begun cs) (c1 : w.cell? ⟨g1, 0, none⟩ = some (.pointer (some ⟨g, 0, none⟩))) : Calls Try.prog 66 #[.map (some m), .func (.func 67) #[] #[.pointer (some ⟨g1, 0, none⟩)]] w fun e w' => e = .returned (.tuple #[]) ∧ MapAt w' m (prs (cs.filter (stayC b.time))) ∧ Touch (fun k => k = m) w w' := by
  have hma := h.mapS
  have hgm : g ≠ m := hma.ne h.at_
  have hg1m : g1 ≠ m := hma.neC c1
  have hml := hma.lt
  have HMN : Hid (∀ left, MapAt w m (midL cs b.time left) → True) := Hid.mk (fun _ _ => trivial)
  have HB := Hid.mk h
  have HMA := Hid.mk hma
  have HC1 := Hid.mk c1
  clear HMN h hma c1
  go_enter Try.func66, Try.ntmps66
  go_wp2_with (refine wl_range rfl rfl rfl HMA.out ?_; intro r w1 hr1 hrg hB1; refine Hid.out ?_)
  refine Hid.mk ?_
  have HRG := Hid.mk hrg
  have HB1 := Hid.mk hB1
  clear hrg hB1
  go_wp2_with fail
  go_loopg [] (prs cs).length (fun gm z => ∃ (left : List (Fam × Nat)), Hid (gm = left.length) ∧ Hid (RangeAt z m r (midL cs b.time left) left) ∧ Hid ((left.map (·.1)).Nodup ∧ ∀ d ∈ left, d ∈ prs cs) ∧ Hid (Touch (fun k => k = m) w z))
  case atStart => exact ⟨prs cs, Hid.mk rfl, Hid.mk (by rw [mid_all]; exact HRG.out), Hid.mk ⟨HB.out.nodup, fun d hd => hd⟩, Hid.mk ((touch_below HB1.out).mono (fun _ _ h => h.elim))⟩
  case round =>
    obtain ⟨left, HL0, HR, HN, HT⟩ := hrel
    by_cases he : left = []
    · subst he
      go_wp2_with (refine wl_nextE rfl rfl rfl HR.out ?_; refine Hid.out ?_)
      refine Hid.mk ?_
      go_wp2_with fail
      exact bodyPost_end (results_none rfl _ _ _) rfl ⟨rfl, by have := HR.out.map; rwa [mid_none HB.out.blk_inj] at this, HT.out⟩
    · have HE := Hid.mk he
      go_wp2_with (refine wl_nextC rfl rfl rfl HR.out HE.out ?_; intro d left' key w4 hpm hdm hkey hrg2 ho2 hen; refine Hid.out ?_)
      refine Hid.mk ?_
      have hdp : d ∈ prs cs := HN.out.2 d (hpm.mem_iff.2 (by simp))
      have HDM := Hid.mk hdm
      obtain ⟨c, hc, rfl⟩ := pr_of hdp
      obtain ⟨V, rfl, hV1⟩ := key_form hkey
      have hN' : ((c.h.fam, c.blk) :: left').map (·.1) |>.Nodup := (hpm.map (·.1)).nodup_iff.1 HN.out.1
      rw [List.map_cons, List.nodup_cons] at hN'
      have HN' : Hid ((left'.map (·.1)).Nodup ∧ ∀ d ∈ left', d ∈ prs cs) := Hid.mk ⟨hN'.2, fun d hd => HN.out.2 d (hpm.mem_iff.2 (List.mem_cons_of_mem _ hd))⟩
      have HNI : Hid (∀ d ∈ left', d.1 ≠ c.h.fam) := Hid.mk (fun d hd e => hN'.1 (by show c.h.fam ∈ _; rw [← e]; exact List.mem_map_of_mem (f := fun x : Fam × Nat => x.1) hd))
      have HKP := Hid.mk (fun hs => mid_keep (cs := cs) (t := b.time) hpm hs)
      have HDR := Hid.mk (fun hs => mid_drop (cs := cs) (t := b.time) HB.out.nodup hdp hpm (fun h => HNI.out _ h rfl) hs)
      have HSD := Hid.mk (stayD_at HB.out.blk_inj hc b.time)
      have hcm : c.blk ≠ m := HMA.out.ne (HB.out.all c hc).at_
      have HT4 := Hid.mk (touch_only2 HT.out ho2 (.inr hr1))
      have HK := Hid.mk hkey
      have HEN := Hid.mk hen
      have HRG2 := Hid.mk hrg2
      have HLE := Hid.mk hpm.length_eq
      have hok := HB.out.ok hc
      have HW : Hid (IntKind.i64.wrap (c.h.born + 30000) = c.h.born + 30000) := Hid.mk (wrap_id (by have := hok.1; omega) (by have := hok.2.1; have := HB.out.inv.t1; omega))
      clear HR hkey hen hrg2 hpm hdm hdp hN' hok
      go_wp2_with (refine wl_value rfl (exec_entryP rfl rfl HEN.out) ?_; refine Hid.out ?_)
      refine Hid.mk ?_
      go_wp2_with (refine wl_alO rfl rfl zeroFm ?_; intro g5 w5 hg5 s5 hB5; refine Hid.out ?_)
      refine Hid.mk ?_
      have HT5 := Hid.mk (touch_fresh HT4.out hB5)
      have hgs : w.heap.size ≤ g5 := Nat.le_trans HT4.out.size hg5
      have hr4 : r < g5 := Nat.lt_of_lt_of_le HRG2.out.lt.2 hg5
      have HRG2 := Hid.mk (HRG2.out.kept hB5)
      clear hB5 hg5
      go_wp2_with (refine st_stO (V := V) (g := g5) rfl rfl isFm hV1 s5 rfl rfl ?_; intro w6 s6 ho6; refine Hid.out ?_)
      refine Hid.mk ?_
      have HT6 := Hid.mk (touch_only2 HT5.out ho6 (.inr hgs))
      have HRG2 := Hid.mk (HRG2.out.block (ho6.block m (by omega)) (ho6.block r (by omega)))
      have HLT := Hid.mk (late_run (w := w6) (V := V) (cell_tou HT6.out hg1m HC1.out) (HB.out.at_.tou HT6.out hgm) ((HB.out.all c hc).at_.tou HT6.out hcm) HW.out)
      clear s5 ho6
      go_wp2_with (refine wl_value rfl (look_st rfl isFm s6 rfl) ?_; refine Hid.out ?_)
      refine Hid.mk ?_
      have hlq := late_eq b.time c.h
      have hst : staysF b.time c.h = stayD cs b.time (c.h.fam, c.blk) := HSD.out.symm
      rw [hst] at hlq
      clear hst
      rw [hlq] at HLT
      by_cases hs : stayD cs b.time (c.h.fam, c.blk) = true
      · have HKP := Hid.mk (HKP.out hs)
        rw [hs] at HLT
        clear hlq hs
        go_wp2_with (refine wl_callC en_late rfl rfl rfl (vs := #[.agg (SC 38 V), .pointer (some ⟨c.blk, 0, none⟩), .pointer (some ⟨g1, 0, none⟩)]) (args2 (X := .agg (SC 38 V)) (Y := .pointer (some ⟨c.blk, 0, none⟩)) rfl rfl) rfl (HLT.out.mono (fun e w' he => ⟨_, he.1, rfl, he.2⟩)) (R := fun v w' => v = .bool false ∧ Below w6.heap.size w6 w') ?_; rintro v w7 ⟨rfl, hB7⟩; refine Hid.out ?_)
        refine Hid.mk ?_
        have HT7 := Hid.mk (touch_fresh HT6.out hB7)
        have HRG3 := Hid.mk (HRG2.out.kept hB7)
        clear hB7
        go_wp2_with fail
        go_roundg left'.length
        case rel => exact ⟨left', Hid.mk rfl, Hid.mk (by rw [← HKP.out]; exact HRG3.out), HN', HT7⟩
        case measure => have h1 := HLE.out; have h2 := HL0.out; simp at h1; omega
      · have hs : stayD cs b.time (c.h.fam, c.blk) = false := by simpa using hs
        have HDR := Hid.mk (HDR.out hs)
        rw [hs] at HLT
        clear hlq hs
        go_wp2_with (refine wl_callC en_late rfl rfl rfl (vs := #[.agg (SC 38 V), .pointer (some ⟨c.blk, 0, none⟩), .pointer (some ⟨g1, 0, none⟩)]) (args2 (X := .agg (SC 38 V)) (Y := .pointer (some ⟨c.blk, 0, none⟩)) rfl rfl) rfl (HLT.out.mono (fun e w' he => ⟨_, he.1, rfl, he.2⟩)) (R := fun v w' => v = .bool true ∧ Below w6.heap.size w6 w') ?_; rintro v w7 ⟨rfl, hB7⟩; refine Hid.out ?_)
        refine Hid.mk ?_
        have HT7 := Hid.mk (touch_fresh HT6.out hB7)
        have HRG3 := Hid.mk (HRG2.out.kept hB7)
        have s7 := s6.kept hB7
        have HND : Hid (((midL cs b.time left).map (·.1)).Nodup) := Hid.mk (List.Nodup.sublist (List.Sublist.map _ List.filter_sublist) HB.out.nodup)
        clear hB7 s6
        go_wp2_with (refine wl_value rfl (look_st rfl isFm s7 rfl) ?_; refine Hid.out ?_)
        refine Hid.mk ?_
        go_wp2_with (refine wl_delR rfl rfl rfl rfl HRG3.out HND.out HDM.out HNI.out HK.out ?_; intro w8 hrg8 ho8; refine Hid.out ?_)
        refine Hid.mk ?_
        have HRG8 := Hid.mk hrg8
        have HT8 := Hid.mk (touch_only2 HT7.out ho8 (.inl rfl))
        clear hrg8 ho8
        go_wp2_with fail
        go_roundg left'.length
        case rel => exact ⟨left', Hid.mk rfl, Hid.mk (by rw [← HDR.out]; exact HRG8.out), HN', HT8⟩
        case measure => have h1 := HLE.out; have h2 := HL0.out; simp at h1; omega
end Go.Proofs.Ythnlfjkpiohooaa
/-
  Own text. The late heaps of a box dropped; a box told the time.
-/
namespace Go.Proofs.Ythnlfjkpiohooaa
open Go.RowKit Go.Proofs
set_option maxRecDepth 100000
theorem wl_boxB {ops : Array Oper} {rest : List Oper} {o : Oper} {x : Operand} {a : Act} {w : World} {Q : Exit → Act → World → Prop} {ad : Addr} (ho : o.op = .box 40 x) (hw : Region.wanted o (yielded ops a.tmps) = true) (hx : a.eval x = .pointer (some ad))
    (h : ∀ g w', w.heap.size ≤ g → w'.cell? ⟨g, 0, none⟩ = some (.pointer (some ad)) → Below w.heap.size w w' → wpList Try.prog ops Q rest (a.put o.dst (.pointer (some ⟨g, 0, none⟩))) w') : wpList Try.prog ops Q (o :: rest) a w := by
  refine wl_act hw ?_
  unfold Oper.wp execOp
  simp only [ho, hx]
  simp [go_sem]
  refine h _ _ (Nat.le_refl _) ?_ ((Below.refl _ _).alloc (Nat.le_refl _) _)
  unfold World.cell?
  rw [heap_alloc_new]
  rfl
set_option maxHeartbeats 4000000 in
theorem DeleteFuncN_run {w : World} {f : Value} : Calls Try.prog 66 #[.map none, f] w fun e w' => e = .returned (.tuple #[]) ∧ Below w.heap.size w w' := by
  go_enter Try.func66, Try.ntmps66
  go_wp2_with (refine wl_rangeN rfl rfl rfl ?_; intro r w1 hnx hB1; refine Hid.out ?_)
  refine Hid.mk ?_
  have HNX := Hid.mk hnx
  clear hnx
  go_wp2_with fail
  go_loopg [] 1 (fun gm z => z = w1)
  case atStart => exact rfl
  case round =>
    subst hrel
    go_wp2_with (refine wl_value rfl (exec_nextN rfl rfl HNX.out) ?_; refine Hid.out ?_)
    refine Hid.mk ?_
    go_wp2_with fail
    exact bodyPost_end (results_none rfl _ _ _) rfl ⟨rfl, hB1⟩
theorem en_DelF (args : Array Value) (w : World) : (callFunc 66 args).run Try.prog w = .ok (.enter 66 args) w := by kernel_rfl
theorem BoxAt.drop {w w' : World} {B : Nat} {N : Nat → Prop} {g m : Nat} {b : Bx} {begun : Int} {cs : List Ch} (h : BoxAt w B N g (.map (some m)) b begun cs) (p : Ch → Bool) (q : Hp → Bool) (hpq : ∀ c, p c = q c.h) (hm : MapAt w' m (prs (cs.filter p))) (ht : Touch (fun k => k = m) w w') : BoxAt w' B N g (.map (some m)) ⟨b.time, b.hs.filter q⟩ begun (cs.filter p) := by
  have hsub : ∀ c ∈ cs.filter p, c ∈ cs := fun c hc => (List.mem_filter.1 hc).1
  refine ⟨h.inv.filt q (Int.le_refl _) h.inv.t1, h.at_.tou ht (h.mapS.ne h.at_), .inr ⟨m, rfl, hm⟩, ?_, fun c hc => ?_, h.apart.filter _, h.num.filter _, fun c hc => h.num0 c (hsub c hc), h.beg, h.gB, fun c hc => h.far c (hsub c hc), h.gN, h.mN⟩
  · show (cs.filter p).map Ch.h = b.hs.filter q
    rw [← h.hs, List.filter_map]
    congr 1
    exact List.filter_congr (fun c _ => hpq c)
  · have hc0 := hsub c hc
    refine (h.all c hc0).block (fun k hk => ht.block k ((h.all c hc0).lt hk) (fun e => ?_))
    have := (h.far c hc0 k hk).2.1
    exact this (by rw [e]; rfl)
theorem BoxAt.told {w w' : World} {B : Nat} {N : Nat → Prop} {g : Nat} {mv : Value} {b : Bx} {begun t : Int} {cs : List Ch} (h : BoxAt w B N g mv b begun cs) (hs : SAt w' g 63 3 (bxV mv t begun)) (ho : Only g w w') (h1 : b.time ≤ t) (h2 : t ≤ 4611686018427387904) : BoxAt w' B N g mv ⟨t, b.hs⟩ begun cs := by
  have hi := h.inv.filt (fun _ => true) h1 h2
  rw [List.filter_eq_self.2 (fun _ _ => rfl)] at hi
  refine { h with inv := hi, at_ := hs, map := ?_, all := fun c hc => (h.all c hc).block (fun k hk => ho.block k (h.far c hc k hk).1) }
  rcases h.map with h3 | ⟨m, e, hm⟩
  · exact .inl h3
  · exact .inr ⟨m, e, hm.block (ho.block m (fun e2 => hm.ne h.at_ e2.symm))⟩
/-- What a box's blocks do not include stays. -/
def Spares (N : Nat → Prop) (w w' : World) : Prop := Touch (fun k => ¬ N k) w w'
theorem Spares.trans {N : Nat → Prop} {u v w : World} (h : Spares N u v) (k : Spares N v w) : Spares N u w := Touch.tr h k
theorem spares_below {N : Nat → Prop} {w w' : World} (h : Below w.heap.size w w') : Spares N w w' := (touch_below h).mono (fun _ _ h => h.elim)
theorem spares_only {N : Nat → Prop} {g : Nat} {w w' : World} (h : Only g w w') (hg : ¬ N g) : Spares N w w' := (touch_only h).mono (fun k _ (e : k = g) => e ▸ hg)
theorem spares_touch {N : Nat → Prop} {g : Nat} {w w' : World} (h : Touch (fun k => k = g) w w') (hg : ¬ N g) : Spares N w w' := h.mono (fun k _ (e : k = g) => e ▸ hg)
theorem stay_len {cs : List Ch} {hs : List Hp} (h : cs.map Ch.h = hs) (t : Int) : (cs.filter (stayC t)).length = (hs.filter (staysF t)).length := by
  rw [← h, List.filter_map, List.length_map]
  rfl
set_option maxHeartbeats 8000000 in
theorem dropLate_run {w : World} {B : Nat} {N : Nat → Prop} {g : Nat} {mv : Value} {b : Bx} {begun : Int} {cs : List Ch} (h : BoxAt w B N g mv b begun cs) : Calls Try.prog 54 #[.pointer (some ⟨g, 0, none⟩)] w fun e w' => e = .returned (.int .i64 ((b.hs.length - (b.hs.filter (staysF b.time)).length : Nat) : Int)) ∧ BoxAt w' B N g mv ⟨b.time, b.hs.filter (staysF b.time)⟩ begun (cs.filter (stayC b.time)) ∧ Spares N w w' := by
  have hlen : cs.length = b.hs.length := by rw [← h.hs, List.length_map]
  have hl2 := stay_len h.hs b.time
  have hle : (b.hs.filter (staysF b.time)).length ≤ b.hs.length := List.length_filter_le _ _
  have h8 := h.inv.few
  rcases h.map with ⟨rfl, e⟩ | ⟨m, rfl, hma⟩
  · subst e
    have h0 : b.hs = [] := h.hs.symm
    rw [h0]
    have HB := Hid.mk h
    have c0 := bx_map h.at_
    have HEND : Hid (∀ z, Below w.heap.size w z → BoxAt z B N g (.map none) ⟨b.time, [].filter (staysF b.time)⟩ begun ([].filter (stayC b.time))) := Hid.mk (fun z hz => by
      have h1 := h.kept hz
      have h2 : (⟨b.time, [].filter (staysF b.time)⟩ : Bx) = b := by rw [← show b.hs = [] from h0]; cases b; simp at h0; subst h0; rfl
      rw [h2]
      exact h1)
    have hgl := h.at_.lt
    clear h hlen hl2 hle h8 h0
    go_enter Try.func54, Try.ntmps54
    go_wp2_with (refine wl_boxB rfl rfl rfl ?_; intro g1 w1 hg1 c1 hB1; refine Hid.out ?_)
    refine Hid.mk ?_
    have c0 := (hB1.cell (p := ⟨g, 0, none⟩) hgl).trans c0
    go_wp2_with (refine wl_value rfl (exec_ld rfl rfl (ldB c1)) ?_; refine Hid.out ?_)
    refine Hid.mk ?_
    go_wp2_with (refine wl_value rfl (exec_fbx 0 (by decide) rfl rfl) ?_; refine Hid.out ?_)
    refine Hid.mk ?_
    go_wp2_with (refine wl_value rfl (exec_ld rfl rfl (ldM c0)) ?_; refine Hid.out ?_)
    refine Hid.mk ?_
    go_wp2_with (refine wl_value rfl (exec_lenM0 rfl rfl) ?_; refine Hid.out ?_)
    refine Hid.mk ?_
    go_wp2_with (refine wl_value rfl (exec_ld rfl rfl (ldB c1)) ?_; refine Hid.out ?_)
    refine Hid.mk ?_
    go_wp2_with (refine wl_value rfl (exec_fbx 0 (by decide) rfl rfl) ?_; refine Hid.out ?_)
    refine Hid.mk ?_
    go_wp2_with (refine wl_value rfl (exec_ld rfl rfl (ldM c0)) ?_; refine Hid.out ?_)
    refine Hid.mk ?_
    go_wp2_with (refine wl_value rfl (exec_mkC rfl rfl) ?_; refine Hid.out ?_)
    refine Hid.mk ?_
    go_wp2_with (go_at_call 66; refine DeleteFuncN_run.mono ?_; rintro e w2 ⟨rfl, hB2⟩; refine Hid.out ?_)
    refine Hid.mk ?_
    have c1 := (hB2.cell (p := ⟨g1, 0, none⟩) (World.block_lt_of_cell? _ _ c1)).trans c1
    have c0 := (hB2.cell (p := ⟨g, 0, none⟩) (Nat.lt_of_lt_of_le hgl hB1.size)).trans c0
    go_wp2_with (refine wl_value rfl (exec_ld rfl rfl (ldB c1)) ?_; refine Hid.out ?_)
    refine Hid.mk ?_
    go_wp2_with (refine wl_value rfl (exec_fbx 0 (by decide) rfl rfl) ?_; refine Hid.out ?_)
    refine Hid.mk ?_
    go_wp2_with (refine wl_value rfl (exec_ld rfl rfl (ldM c0)) ?_; refine Hid.out ?_)
    refine Hid.mk ?_
    go_wp2_with (refine wl_value rfl (exec_lenM0 rfl rfl) ?_; refine Hid.out ?_)
    refine Hid.mk ?_
    go_wp2_with (refine wl_value rfl (exec_subE (m := 0) (n := 0) rfl rfl rfl (by decide)) ?_; refine Hid.out ?_)
    refine Hid.mk ?_
    go_wp2_with fail
    go_ret
    have hBa := hB1.trans (hB2.mono hB1.size)
    exact ⟨rfl, HEND.out _ hBa, spares_below hBa⟩
  · have hma : MapAt w m (prs cs) := hma
    have c0 := bx_map h.at_
    have hgl := h.at_.lt
    have hmN := h.mN m rfl
    have HB := Hid.mk h
    have HLN : Hid ((prs cs).length = b.hs.length) := Hid.mk (by unfold prs; rw [List.length_map]; exact hlen)
    have HL2 : Hid ((prs (cs.filter (stayC b.time))).length = (b.hs.filter (staysF b.time)).length) := Hid.mk (by unfold prs; rw [List.length_map]; exact hl2)
    clear h hlen hl2
    generalize hn1 : (b.hs.filter (staysF b.time)).length = n1 at *
    generalize b.hs.length = n0 at *
    go_enter Try.func54, Try.ntmps54
    go_wp2_with (refine wl_boxB rfl rfl rfl ?_; intro g1 w1 hg1 c1 hB1; refine Hid.out ?_)
    refine Hid.mk ?_
    have c0 := (hB1.cell (p := ⟨g, 0, none⟩) hgl).trans c0
    have hma := hma.kept hB1
    have HB1 := Hid.mk (HB.out.kept hB1)
    go_wp2_with (refine wl_value rfl (exec_ld rfl rfl (ldB c1)) ?_; refine Hid.out ?_)
    refine Hid.mk ?_
    go_wp2_with (refine wl_value rfl (exec_fbx 0 (by decide) rfl rfl) ?_; refine Hid.out ?_)
    refine Hid.mk ?_
    go_wp2_with (refine wl_value rfl (exec_ld rfl rfl (ldM c0)) ?_; refine Hid.out ?_)
    refine Hid.mk ?_
    go_wp2_with (refine wl_value rfl (exec_lenM rfl hma rfl) ?_; refine Hid.out ?_)
    refine Hid.mk ?_
    go_wp2_with (refine wl_value rfl (exec_ld rfl rfl (ldB c1)) ?_; refine Hid.out ?_)
    refine Hid.mk ?_
    go_wp2_with (refine wl_value rfl (exec_fbx 0 (by decide) rfl rfl) ?_; refine Hid.out ?_)
    refine Hid.mk ?_
    go_wp2_with (refine wl_value rfl (exec_ld rfl rfl (ldM c0)) ?_; refine Hid.out ?_)
    refine Hid.mk ?_
    go_wp2_with (refine wl_value rfl (exec_mkC rfl rfl) ?_; refine Hid.out ?_)
    refine Hid.mk ?_
    go_wp2_with (go_at_call 66; refine (DeleteFunc_run HB1.out c1).mono ?_; rintro e w2 ⟨rfl, hm2, hT2⟩; refine Hid.out ?_)
    refine Hid.mk ?_
    have HB2 := Hid.mk (HB1.out.drop (stayC b.time) (staysF b.time) (fun _ => rfl) hm2 hT2)
    have c1 := cell_tou hT2 (hma.neC c1) c1
    have c0 := cell_tou hT2 (hma.neC c0) c0
    go_wp2_with (refine wl_value rfl (exec_ld rfl rfl (ldB c1)) ?_; refine Hid.out ?_)
    refine Hid.mk ?_
    go_wp2_with (refine wl_value rfl (exec_fbx 0 (by decide) rfl rfl) ?_; refine Hid.out ?_)
    refine Hid.mk ?_
    go_wp2_with (refine wl_value rfl (exec_ld rfl rfl (ldM c0)) ?_; refine Hid.out ?_)
    refine Hid.mk ?_
    go_wp2_with (refine wl_value rfl (exec_lenM rfl hm2 rfl) ?_; refine Hid.out ?_)
    refine Hid.mk ?_
    go_wp2_with (refine wl_value rfl (exec_subW (i := (prs cs).length) (m := (prs (cs.filter (stayC b.time))).length) (q := n0 - n1) rfl rfl rfl (by have := HLN.out; have := HL2.out; omega) (by have := HLN.out; omega)) ?_; refine Hid.out ?_)
    refine Hid.mk ?_
    go_wp2_with fail
    go_ret
    exact ⟨rfl, HB2.out, (spares_below hB1).trans (spares_touch hT2 hmN)⟩
theorem en_dropLate (args : Array Value) (w : World) : (callFunc 54 args).run Try.prog w = .ok (.enter 54 args) w := by kernel_rfl
/-- What a box is behind a time told. -/
def lateC (t : Int) (cs : List Ch) : List Ch := cs.filter (stayC t)
set_option maxHeartbeats 8000000 in
theorem Tick_run {w : World} {B : Nat} {N : Nat → Prop} {g : Nat} {mv : Value} {b : Bx} {begun now : Int} {cs : List Ch} (h : BoxAt w B N g mv b begun cs) : Calls Try.prog 34 #[.pointer (some ⟨g, 0, none⟩), .int .i64 now] w fun e w' => e = .returned (.int .i64 ((b.hs.length - (lateF b now).hs.length : Nat) : Int)) ∧ BoxAt w' B N g mv (lateF b now) begun (lateC (timeF b.time now) cs) ∧ Spares N w w' := by
  have HB := Hid.mk h
  have hnil := run_nilB ⟨g, 0, none⟩
  have hat := h.at_
  clear h
  go_enter Try.func34, Try.ntmps34
  go_wp2_with (go_at_call 53; refine (tell_run (now := now) hat).mono ?_; rintro e w2 ⟨rfl, s2, ho2⟩; refine Hid.out ?_)
  refine Hid.mk ?_
  have HB2 := Hid.mk (HB.out.told s2 ho2 (timeF_le _ _) (by have := HB.out.inv.t1; unfold timeF; omega))
  go_wp2_with (go_at_call 54; refine (dropLate_run HB2.out).mono ?_; rintro e w3 ⟨rfl, hb3, hs3⟩; refine Hid.out ?_)
  refine Hid.mk ?_
  go_wp2_with fail
  go_ret
  exact ⟨rfl, hb3, (spares_only ho2 HB.out.gN).trans hs3⟩
theorem en_Tick (args : Array Value) (w : World) : (callFunc 34 args).run Try.prog w = .ok (.enter 34 args) w := by kernel_rfl
end Go.Proofs.Ythnlfjkpiohooaa
/-
  Own text. A heap begun: room is made, a new heap laid down.
-/
namespace Go.Proofs.Ythnlfjkpiohooaa
open Go.RowKit Go.Proofs
set_option maxRecDepth 100000
theorem run_nilM (m : Nat) (w : World) : Sem.run Try.prog (binOp .eql 61 (.map (some m)) (.map none)) w = .ok (.bool false) w := by kernel_rfl
theorem run_nilM0 (w : World) : Sem.run Try.prog (binOp .eql 61 (.map none) (.map none)) w = .ok (.bool true) w := by kernel_rfl
theorem exec_nilM {a : Act} {o : Oper} {w : World} {x : Operand} (ho : o.op = .binOp .eql 61 x (.const (.map none)) 61) {m : Nat} (hx : a.eval x = .map (some m)) : (execOp a.eval o).run Try.prog w = .ok (.value (.bool false)) w := exec_bin2 ho hx rfl rfl (run_nilM m w)
theorem exec_nilM0 {a : Act} {o : Oper} {w : World} {x : Operand} (ho : o.op = .binOp .eql 61 x (.const (.map none)) 61) (hx : a.eval x = .map none) : (execOp a.eval o).run Try.prog w = .ok (.value (.bool true)) w := exec_bin2 ho hx rfl rfl (run_nilM0 w)
section
variable {ops : Array Oper} {rest : List Oper} {o : Oper} {a : Act} {w : World} {Q : Exit → Act → World → Prop}
theorem wl_mkM (ho : o.op = .makeMap 61 none) (hw : Region.wanted o (yielded ops a.tmps) = true)
    (h : ∀ m w', w.heap.size ≤ m → MapAt w' m [] → Below w.heap.size w w' → wpList Try.prog ops Q rest (a.put o.dst (.map (some m))) w') : wpList Try.prog ops Q (o :: rest) a w := by
  refine wl_act hw ?_
  unfold Oper.wp execOp
  simp only [ho, Option.map_none, Sem.run_bind, run_makeMap, Result.andThen_ok, Sem.run_pure, Oper.upon]
  exact h _ _ (Nat.le_refl _) ⟨#[], 0, heap_alloc_new _ _, trivial, List.nodup_nil, fun x hx => (by cases hx)⟩ ((Below.refl _ _).alloc (Nat.le_refl _) _)
theorem wl_newF {x y z : Operand} {m q : Nat} {L : List (Fam × Nat)} {k : Value} {F : Fam} (ho : o.op = .mapUpdate 61 x y z) (hw : Region.wanted o (yielded ops a.tmps) = true) (hx : a.eval x = .map (some m)) (hy : a.eval y = k) (hz : a.eval z = .pointer (some ⟨q, 0, none⟩)) (hm : MapAt w m L) (hk : KeyIs k F) (hno : ∀ c ∈ L, c.1 ≠ F)
    (h : ∀ w', MapAt w' m (L ++ [(F, q)]) → Only m w w' → wpList Try.prog ops Q rest (a.put o.dst undef) w') : wpList Try.prog ops Q (o :: rest) a w := by
  obtain ⟨w', hr, h1, h2⟩ := run_newF hm hk hno q
  have hr : (Instr.mapUpdate 61 (.map (some m)) k (.pointer (some ⟨q, 0, none⟩))).run Try.prog w = .ok () w' := hr
  refine wl_act hw ?_
  unfold Oper.wp execOp
  simp only [ho, hx, hy, hz, Sem.run_bind, hr, Result.andThen_ok, Sem.run_pure, Oper.upon]
  exact h _ h1 h2
end
theorem stM {g f : Nat} {c : Value} (n : Option Nat) : ∀ w : World, w.cell? ⟨g, f, none⟩ = some c → w.frozen? ⟨g, f, none⟩ = false → (Instr.storeAt 61 (.pointer (some ⟨g, f, none⟩)) (.map n)).run Try.prog w = .ok () (w.setCell ⟨g, f, none⟩ (.map n)) := fun w h1 h2 => by simp [go_sem, h1, h2]
theorem run_hpB (t n : Int) (w : World) : (Instr.build 89 #[(0, .int .i64 t), (1, .int .i64 n)]).run Try.prog w = .ok (.agg (SC 49 (hpV t n zeroP (.slice none 0 0) (.slice none 0 0)))) w := by kernel_rfl
theorem exec_hpB {a : Act} {o : Oper} {w : World} {x y : Operand} {t n : Int} (ho : o.op = .build 89 #[(0, x), (1, y)]) (hx : a.eval x = .int .i64 t) (hy : a.eval y = .int .i64 n) : (execOp a.eval o).run Try.prog w = .ok (.value (.agg (SC 49 (hpV t n zeroP (.slice none 0 0) (.slice none 0 0))))) w := by
  unfold execOp
  simp only [ho, List.map_toArray, List.map_cons, List.map_nil, hx, hy, Sem.run_bind, run_hpB, Result.andThen_ok, Sem.run_pure]
theorem exec_geT {a : Act} {o : Oper} {w : World} {x y : Operand} (ho : o.op = .binOp .geq 3 x y 3) {m n : Int} (hx : a.eval x = .int .i64 m) (hy : a.eval y = .int .i64 n) (h : n ≤ m) : (execOp a.eval o).run Try.prog w = .ok (.value (.bool true)) w := by
  have := cmp_ge (w := w) ho hx hy
  rwa [decide_eq_true h] at this
theorem exec_geF {a : Act} {o : Oper} {w : World} {x y : Operand} (ho : o.op = .binOp .geq 3 x y 3) {m n : Int} (hx : a.eval x = .int .i64 m) (hy : a.eval y = .int .i64 n) (h : ¬ n ≤ m) : (execOp a.eval o).run Try.prog w = .ok (.value (.bool false)) w := by
  have := cmp_ge (w := w) ho hx hy
  rwa [decide_eq_false h] at this
theorem BoxAt.remap {w w' : World} {B : Nat} {N : Nat → Prop} {g m : Nat} {b : Bx} {begun : Int} {cs : List Ch} (h : BoxAt w B N g (.map (some m)) b begun cs) (hm : MapAt w' m (prs cs)) (ht : Touch (fun k => k = m) w w') : BoxAt w' B N g (.map (some m)) b begun cs :=
  { h with at_ := h.at_.tou ht (h.mapS.ne h.at_), map := .inr ⟨m, rfl, hm⟩, all := fun c hc => (h.all c hc).block (fun k hk => ht.block k ((h.all c hc).lt hk) (fun e => (h.far c hc k hk).2.1 (by rw [e]; rfl))) }
/-- The heaps kept when another begins. -/
def roomC (cs : List Ch) : List Ch := if 8 ≤ cs.length then cs.drop 1 else cs
theorem prs_drop {c0 : Ch} {l : List Ch} (hn : ((prs (c0 :: l)).map (·.1)).Nodup) : (prs (c0 :: l)).filter (fun d => !decide (d.1 = c0.h.fam)) = prs l := by
  have hn2 : (((c0.h.fam, c0.blk) :: prs l).map (·.1)).Nodup := hn
  rw [List.map_cons, List.nodup_cons] at hn2
  show ((c0.h.fam, c0.blk) :: prs l).filter _ = prs l
  rw [List.filter_cons_of_neg (by simp)]
  refine List.filter_eq_self.2 (fun d hd => ?_)
  have : d.1 ≠ c0.h.fam := fun e => hn2.1 (by show c0.h.fam ∈ _; rw [← e]; exact List.mem_map_of_mem (f := fun x : Fam × Nat => x.1) hd)
  simpa using this
def bxOwn (g : Nat) (mv : Value) (k : Nat) : Prop := k = g ∨ mvB mv = some k
theorem BoxAt.room {cs : List Ch} (_ : True) : roomC cs = if 8 ≤ cs.length then cs.drop 1 else cs := rfl
theorem own_fresh {T : Nat → Prop} {w z z' : World} (h : Touch T w z) (h2 : Below z.heap.size z z') : Touch T w z' :=
  ⟨h2.os.trans h.os, h2.tape.trans h.tape, h2.output.trans h.output, Nat.le_trans h.size h2.size, fun k hk hn => (h2.block k (Nat.lt_of_lt_of_le hk h.size)).trans (h.block k hk hn)⟩
theorem own_only {T : Nat → Prop} {r : Nat} {w z z' : World} (h : Touch T w z) (h2 : Only r z z') (hr : T r ∨ w.heap.size ≤ r) : Touch T w z' :=
  ⟨h2.os.trans h.os, h2.tape.trans h.tape, h2.output.trans h.output, by rw [h2.size]; exact h.size, fun k hk hn => (h2.block k (fun e => hr.elim (fun t => hn (e ▸ t)) (fun t => by omega))).trans (h.block k hk hn)⟩
set_option maxHeartbeats 16000000 in
theorem begin_run {w : World} {B : Nat} {N : Nat → Prop} {g : Nat} {mv : Value} {b : Bx} {begun : Int} {cs : List Ch} {V : Nat → Value} {F : Fam} (h : BoxAt w B N g mv b begun cs) (hk : KeyIs (.agg (SC 38 V)) F) (hF : ∀ c ∈ cs, c.h.fam ≠ F) : Calls Try.prog 57 #[.pointer (some ⟨g, 0, none⟩), .agg (SC 38 V)] w fun e w' => ∃ q m, e = .returned (.pointer (some ⟨q, 0, none⟩)) ∧ w.heap.size ≤ q ∧ SAt w' g 63 3 (bxV (.map (some m)) b.time (begun + 1)) ∧ MapAt w' m (prs (roomC cs) ++ [(F, q)]) ∧ SAt w' q 89 49 (hpV b.time begun zeroP (.slice none 0 0) (.slice none 0 0)) ∧ (mv = .map (some m) ∨ (mv = .map none ∧ w.heap.size ≤ m)) ∧ Touch (bxOwn g mv) w w' := by
  have c0 := bx_map h.at_
  have hgl := h.at_.lt
  have HB := Hid.mk h
  have HK := Hid.mk hk
  have HM := Hid.mk h.map
  have HF : Hid (∀ d ∈ prs (roomC cs), d.1 ≠ F) := Hid.mk (fun d hd => by
    obtain ⟨c, hc, rfl⟩ := pr_of hd
    refine hF c ?_
    unfold roomC at hc
    split at hc
    · exact List.mem_of_mem_drop hc
    · exact hc)
  have hat := h.at_
  clear h hk hF
  go_enter Try.func57, Try.ntmps57
  go_wp2_with (refine wl_boxO (V := V) rfl rfl isFm rfl ?_; intro g3 w1 hg3 s3 hB1; refine Hid.out ?_)
  refine Hid.mk ?_
  have c0 := (hB1.cell (p := ⟨g, 0, none⟩) hgl).trans c0
  have hat := hat.kept hB1
  go_wp2_with (refine wl_value rfl (exec_fbx 0 (by decide) rfl rfl) ?_; refine Hid.out ?_)
  refine Hid.mk ?_
  rename_i K1 HK1 K0 HK0
  have TAIL : ∀ (t6 t7 t8 t9 t10 t11 t12 t13 t14 : Value) (m : Nat) (u : World), SAt u g 63 3 (bxV (.map (some m)) b.time begun) → MapAt u m (prs cs) → Touch (bxOwn g mv) w u → SAt u g3 69 38 V → ((mv = .map (some m) ∧ BoxAt u B N g (.map (some m)) b begun cs) ∨ (mv = .map none ∧ cs = [] ∧ w.heap.size ≤ m)) → K1 { tmps := #[.pointer (some ⟨g, 0, none⟩), .agg (SC 38 V), undef, .pointer (some ⟨g3, 0, none⟩), .pointer none, undef, t6, t7, t8, t9, t10, t11, t12, t13, t14, undef, undef, undef, undef, undef, undef, undef, undef, undef, undef, undef, undef, undef, undef, undef, undef, undef, undef, undef, undef, undef, undef, undef, undef, undef, undef, undef, undef, undef, undef, undef, undef, undef, undef, undef, undef], defers := [] } u := by
    intro t6 t7 t8 t9 t10 t11 t12 t13 t14 m u su mu tu s3u hmv
    have HTU := Hid.mk tu
    have HMV := Hid.mk hmv
    have c0u := bx_map su
    refine HK1 _ _ ?_
    dsimp only
    clear HK1 HK0
    go_wp2_with (refine wl_value rfl (exec_fbx 0 (by decide) rfl rfl) ?_; refine Hid.out ?_)
    refine Hid.mk ?_
    rename_i K3 HK3 K2 HK2
    have TAIL2 : ∀ (t6 t7 t8 t9 t10 t11 t12 t13 t14 t15 t16 t17 t18 t19 t20 t21 t22 t23 t24 t25 t26 : Value) (u : World), SAt u g 63 3 (bxV (.map (some m)) b.time begun) → MapAt u m (prs (roomC cs)) → Touch (bxOwn g mv) w u → SAt u g3 69 38 V → K3 { tmps := #[.pointer (some ⟨g, 0, none⟩), .agg (SC 38 V), undef, .pointer (some ⟨g3, 0, none⟩), .pointer none, undef, t6, t7, t8, t9, t10, t11, t12, t13, t14, t15, t16, t17, t18, t19, t20, t21, t22, t23, t24, t25, t26, undef, undef, undef, undef, undef, undef, undef, undef, undef, undef, undef, undef, undef, undef, undef, undef, undef, undef, undef, undef, undef, undef, undef, undef], defers := [] } u := by
      clear hmv tu s3u mu su c0u
      intro t6 t7 t8 t9 t10 t11 t12 t13 t14 t15 t16 t17 t18 t19 t20 t21 t22 t23 t24 t25 t26 u su mu tu s3u
      have HTU := Hid.mk tu
      refine HK3 _ _ ?_
      dsimp only
      clear HK3 HK2
      go_upto_region 5 with fail
      refine wp_region_cut 8 rfl (by kernel_rfl) (any_region3 (Below u.heap.size u) (u.heap.size)
          ([] : List (Nat × Cont))
          [kv (.pointer (some ⟨g, 0, none⟩)), kv (.pointer (some ⟨g, 0, none⟩)), kv (.pointer (some ⟨g, 1, none⟩)), kv (.int .i64 b.time), kv (.pointer (some ⟨g, 0, none⟩)), kv (.pointer (some ⟨g, 0, none⟩)), kv (.pointer (some ⟨g, 2, none⟩)), kv (.int .i64 begun)]
          [.none, .none, .none, .none, .none, .none, .none, .none]
          [some 27, some 28, some 29, some 30, some 31, some 32, some 33, some 34]
          [(0, .pointer (some ⟨g, 0, none⟩))]
          [[], [.slot 0], [.slot 1], [.slot 2], [], [.slot 4], [.slot 5], [.slot 6]]
          [.slot 3, .slot 7] [27, 28, 29, 30, 31, 32, 33, 34]
          (by kernel_rfl) ⟨rfl, trivial⟩ ((Below.refl _ u).drew) (Nat.le_refl _) trivial trivial (below_GcW (Nat.le_refl _))
          ⟨
          (fun QQ aa ww own hS hBg fr kn => .inl ⟨trivial, fun K hK => wp_value (exec_move rfl fr.1) (hK _ _ ⟨Touch.refl _ _, rfl⟩)⟩),
          (fun QQ aa ww own hS hBg fr kn => .inl ⟨trivial, fun K hK => wp_value (exec_nilc rfl kn.1) (hK _ _ ⟨Touch.refl _ _, rfl⟩)⟩),
          (fun QQ aa ww own hS hBg fr kn => .inl ⟨trivial, fun K hK => wp_value (exec_fbx 1 (by decide) rfl kn.1) (hK _ _ ⟨Touch.refl _ _, rfl⟩)⟩),
          (fun QQ aa ww own hS hBg fr kn => .inl ⟨trivial, fun K hK => wp_value (exec_ld rfl kn.1 (ldP (bx_time (su.kept hS)))) (hK _ _ ⟨Touch.refl _ _, rfl⟩)⟩),
          (fun QQ aa ww own hS hBg fr kn => .inl ⟨trivial, fun K hK => wp_value (exec_move rfl fr.1) (hK _ _ ⟨Touch.refl _ _, rfl⟩)⟩),
          (fun QQ aa ww own hS hBg fr kn => .inl ⟨trivial, fun K hK => wp_value (exec_nilc rfl kn.1) (hK _ _ ⟨Touch.refl _ _, rfl⟩)⟩),
          (fun QQ aa ww own hS hBg fr kn => .inl ⟨trivial, fun K hK => wp_value (exec_fbx 2 (by decide) rfl kn.1) (hK _ _ ⟨Touch.refl _ _, rfl⟩)⟩),
          (fun QQ aa ww own hS hBg fr kn => .inl ⟨trivial, fun K hK => wp_value (exec_ld rfl kn.1 (ldP (bx_begun (su.kept hS)))) (hK _ _ ⟨Touch.refl _ _, rfl⟩)⟩),
          trivial⟩ ?_)
      intro vs own u1 hS hsz kn inj
      have e30 : vs 30 = .int .i64 b.time := kn.1
      have e34 : vs 34 = .int .i64 begun := kn.2.1
      clear kn inj hsz
      show wpList Try.prog _ _ (_ :: _ :: _ :: []) _ _
      simp only [putAll, Act.put, List.setIfInBounds_toArray, List.set_cons_zero, List.set_cons_succ, e30, e34]
      clear e30 e34
      have su := su.kept hS
      have mu := mu.kept hS
      have s3u := s3u.kept hS
      have HTU := Hid.mk (own_fresh HTU.out hS)
      clear hS
      go_wp2_with (refine wl_value rfl (exec_hpB (t := b.time) (n := begun) rfl rfl rfl) ?_; refine Hid.out ?_)
      refine Hid.mk ?_
      go_wp2_with (refine wl_boxO (V := hpV b.time begun zeroP (.slice none 0 0) (.slice none 0 0)) rfl rfl isHp rfl ?_; intro q u2 hq sq hBq; refine Hid.out ?_)
      refine Hid.mk ?_
      have su := su.kept hBq
      have mu := mu.kept hBq
      have s3u := s3u.kept hBq
      have hqw : w.heap.size ≤ q := Nat.le_trans HTU.out.size hq
      have HTU := Hid.mk (own_fresh HTU.out hBq)
      clear hBq hq
      go_upto_region 6 with fail
      refine wp_region_cut 6 rfl (by kernel_rfl) (any_region3 (Below u2.heap.size u2) (u2.heap.size)
          ([] : List (Nat × Cont))
          [kv (.pointer (some ⟨g, 0, none⟩)), kv (.pointer (some ⟨g, 0, none⟩)), kv (.pointer (some ⟨g, 0, none⟩)), kv (.map (some m)), kv (.agg (SC 38 V)), kv (.pointer (some ⟨q, 0, none⟩))]
          [.none, .none, .none, .none, .none, .none]
          [some 37, some 38, some 39, some 40, some 41, some 42]
          [(0, .pointer (some ⟨g, 0, none⟩)), (3, .pointer (some ⟨g3, 0, none⟩)), (5, .pointer (some ⟨q, 0, none⟩))]
          [[], [.slot 0], [.slot 1], [.slot 2], [], []]
          [.slot 3, .slot 4, .slot 5] [37, 38, 39, 40, 41, 42]
          (by kernel_rfl) ⟨rfl, rfl, rfl, trivial⟩ ((Below.refl _ u2).drew) (Nat.le_refl _) trivial trivial (below_GcW (Nat.le_refl _))
          ⟨
          (fun QQ aa ww own hS hBg fr kn => .inl ⟨trivial, fun K hK => wp_value (exec_move rfl fr.1) (hK _ _ ⟨Touch.refl _ _, rfl⟩)⟩),
          (fun QQ aa ww own hS hBg fr kn => .inl ⟨trivial, fun K hK => wp_value (exec_nilc rfl kn.1) (hK _ _ ⟨Touch.refl _ _, rfl⟩)⟩),
          (fun QQ aa ww own hS hBg fr kn => .inl ⟨trivial, fun K hK => wp_value (exec_fbx 0 (by decide) rfl kn.1) (hK _ _ ⟨Touch.refl _ _, rfl⟩)⟩),
          (fun QQ aa ww own hS hBg fr kn => .inl ⟨trivial, fun K hK => wp_value (exec_ld rfl kn.1 (ldM (bx_map (su.kept hS)))) (hK _ _ ⟨Touch.refl _ _, rfl⟩)⟩),
          (fun QQ aa ww own hS hBg fr kn => .inl ⟨trivial, fun K hK => wp_value (look_st rfl isFm (s3u.kept hS) fr.2.1) (hK _ _ ⟨Touch.refl _ _, rfl⟩)⟩),
          (fun QQ aa ww own hS hBg fr kn => .inl ⟨trivial, fun K hK => wp_value (exec_move rfl fr.2.2.1) (hK _ _ ⟨Touch.refl _ _, rfl⟩)⟩),
          trivial⟩ ?_)
      intro vs own u3 hS hsz kn inj
      have e40 : vs 40 = .map (some m) := kn.1
      have e41 : vs 41 = .agg (SC 38 V) := kn.2.1
      have e42 : vs 42 = .pointer (some ⟨q, 0, none⟩) := kn.2.2.1
      clear kn inj hsz
      show wpList Try.prog _ _ (_ :: []) _ _
      simp only [putAll, Act.put, List.setIfInBounds_toArray, List.set_cons_zero, List.set_cons_succ, e40, e41, e42]
      clear e40 e41 e42
      have su := su.kept hS
      have mu := mu.kept hS
      have sq := sq.kept hS
      have HTU := Hid.mk (own_fresh HTU.out hS)
      clear hS s3u
      have hgm : g ≠ m := mu.ne su
      have hqm : q ≠ m := mu.ne sq
      have hgq : g ≠ q := by omega
      have hmo : bxOwn g mv m ∨ w.heap.size ≤ m := by
        rcases HMV.out with ⟨e, _⟩ | ⟨_, _, h⟩
        · exact .inl (.inr (by rw [e]; rfl))
        · exact .inr h
      go_wp2_with (refine wl_newF rfl rfl rfl rfl rfl mu HK.out HF.out ?_; intro u4 mu4 ho4; refine Hid.out ?_)
      refine Hid.mk ?_
      have su := su.only ho4 hgm
      have sq := sq.only ho4 hqm
      have HTU := Hid.mk (own_only HTU.out ho4 hmo)
      clear ho4 mu
      go_wp2_with (refine wl_value rfl (exec_fbx 2 (by decide) rfl rfl) ?_; refine Hid.out ?_)
      refine Hid.mk ?_
      go_wp2_with (refine wl_value rfl (exec_ld rfl rfl (ldP (bx_begun su))) ?_; refine Hid.out ?_)
      refine Hid.mk ?_
      go_wp2_with (refine wl_value rfl (exec_addE (m := begun) (n := 1) rfl rfl rfl (wrap_id (by have := HB.out.beg; omega) (by have := HB.out.beg; omega))) ?_; refine Hid.out ?_)
      refine Hid.mk ?_
      go_wp2_with (refine wl_value rfl (exec_fbx 2 (by decide) rfl rfl) ?_; refine Hid.out ?_)
      refine Hid.mk ?_
      go_wp2_with (refine wl_stF (f := 2) (V' := bxV (.map (some m)) b.time (begun + 1)) rfl rfl rfl rfl (by decide) (stI (begun + 1)) su (fun i hi => (match i, hi with | 0, _ => rfl | 1, _ => rfl | 2, _ => rfl)) ?_; intro u5 su5 ho5; refine Hid.out ?_)
      refine Hid.mk ?_
      have sq := sq.only ho5 hgq.symm
      have mu := mu4.block (ho5.block m hgm.symm)
      have HTU := Hid.mk (own_only HTU.out ho5 (.inl (.inl rfl)))
      go_wp2_with fail
      go_ret
      exact ⟨q, m, rfl, hqw, su5, mu, sq, HMV.out.imp (fun h => h.1) (fun h => ⟨h.1, h.2.2⟩), HTU.out⟩
    clear HK3
    by_cases h8 : 8 ≤ cs.length
    · have hne : (8 : Int) ≤ ((prs cs).length : Int) := by unfold prs; rw [List.length_map]; omega
      obtain ⟨c1, l, hcs⟩ : ∃ c1 l, cs = c1 :: l := by
        cases cs with
        | nil => simp at h8
        | cons c l => exact ⟨c, l, rfl⟩
      have hroom : roomC cs = l := by unfold roomC; rw [if_pos h8, hcs]; rfl
      have HBU : Hid (mv = .map (some m) ∧ BoxAt u B N g (.map (some m)) b begun cs) := Hid.mk (by
        rcases HMV.out with h | ⟨_, e, _⟩
        · exact h
        · rw [e] at h8; simp at h8)
      have HCS := Hid.mk hcs
      have hgm : g ≠ m := mu.ne su
      have hg3m : g3 ≠ m := mu.ne s3u
      have hDEL : Hid ((prs cs).filter (fun d => !decide (d.1 = c1.h.fam)) = prs (roomC cs)) := Hid.mk (by
        rw [hroom]
        have hn := HB.out.nodup
        rw [hcs] at hn ⊢
        exact prs_drop hn)
      clear hcs hroom h8
      go_wp2_with (refine wl_value rfl (exec_ld rfl rfl (ldM c0u)) ?_; refine Hid.out ?_)
      refine Hid.mk ?_
      go_wp2_with (refine wl_value rfl (exec_lenM rfl mu rfl) ?_; refine Hid.out ?_)
      refine Hid.mk ?_
      go_wp2_with (refine wl_value rfl (exec_geT (m := ((prs cs).length : Int)) (n := 8) rfl rfl rfl hne) ?_; refine Hid.out ?_)
      refine Hid.mk ?_
      go_upto_region 4 with fail
      refine wp_region_cut 6 rfl (by kernel_rfl) (any_region3 (Below u.heap.size u) (u.heap.size)
          ([] : List (Nat × Cont))
          [kv (.pointer (some ⟨g, 0, none⟩)), kv (.pointer (some ⟨g, 0, none⟩)), kv (.pointer (some ⟨g, 0, none⟩)), kv (.map (some m)), kv (.pointer (some ⟨g, 0, none⟩)), .val fun v => KeyIs v c1.h.fam]
          [.none, .none, .none, .none, .none, .none]
          [some 21, some 22, some 23, some 24, some 25, some 26]
          [(0, .pointer (some ⟨g, 0, none⟩))]
          [[], [.slot 0], [.slot 1], [.slot 2], [], [.slot 4]]
          [.slot 3, .slot 5] [21, 22, 23, 24, 25, 26]
          (by kernel_rfl) ⟨rfl, trivial⟩ ((Below.refl _ u).drew) (Nat.le_refl _) trivial trivial (below_GcW (Nat.le_refl _))
          ⟨
          (fun QQ aa ww own hS hBg fr kn => .inl ⟨trivial, fun K hK => wp_value (exec_move rfl fr.1) (hK _ _ ⟨Touch.refl _ _, rfl⟩)⟩),
          (fun QQ aa ww own hS hBg fr kn => .inl ⟨trivial, fun K hK => wp_value (exec_nilc rfl kn.1) (hK _ _ ⟨Touch.refl _ _, rfl⟩)⟩),
          (fun QQ aa ww own hS hBg fr kn => .inl ⟨trivial, fun K hK => wp_value (exec_fbx 0 (by decide) rfl kn.1) (hK _ _ ⟨Touch.refl _ _, rfl⟩)⟩),
          (fun QQ aa ww own hS hBg fr kn => .inl ⟨trivial, fun K hK => wp_value (exec_ld rfl kn.1 (ldM (bx_map (su.kept hS)))) (hK _ _ ⟨Touch.refl _ _, rfl⟩)⟩),
          (fun QQ aa ww own hS hBg fr kn => .inl ⟨trivial, fun K hK => wp_value (exec_move rfl fr.1) (hK _ _ ⟨Touch.refl _ _, rfl⟩)⟩),
          (fun QQ aa ww own hS hBg fr kn => .inl ⟨trivial, fun K hK => stepp en_first rfl (args1 kn.1) ((first_run (HBU.out.2.kept hS) HCS.out).mono (fun e w' ⟨⟨k, he, hk⟩, hb⟩ => ⟨k, he, And.intro hk hb⟩)) (R := fun v w' => KeyIs v c1.h.fam ∧ Below ww.heap.size ww w') (fun v w' hr => hK _ _ ⟨touch_below hr.2, hr.1⟩)⟩),
          trivial⟩ ?_)
      intro vs own u1 hS hsz kn inj
      have e24 : vs 24 = .map (some m) := kn.1
      have HK26 : Hid (KeyIs (vs 26) c1.h.fam) := Hid.mk kn.2.1
      clear kn inj hsz
      show wpList Try.prog _ _ (_ :: []) _ _
      simp only [putAll, Act.put, List.setIfInBounds_toArray, List.set_cons_zero, List.set_cons_succ, e24]
      clear e24
      generalize vs 26 = k26 at *
      have su := su.kept hS
      have mu := mu.kept hS
      have s3u := s3u.kept hS
      have HTU := Hid.mk (own_fresh HTU.out hS)
      clear hS
      go_wp2_with (refine wl_del rfl rfl rfl rfl mu HB.out.nodup HK26.out ?_; intro u2 mu2 ho2; refine Hid.out ?_)
      refine Hid.mk ?_
      have su := su.only ho2 hgm
      have s3u := s3u.only ho2 hg3m
      have HTU := Hid.mk (own_only HTU.out ho2 (.inl (.inr (by rw [HBU.out.1]; rfl))))
      rw [hDEL.out] at mu2
      clear ho2
      go_wp2_with fail
      exact TAIL2 _ _ _ _ _ _ _ _ _ _ _ _ _ _ _ _ _ _ _ _ _ u2 su mu2 HTU.out s3u
    · have hne : ¬ (8 : Int) ≤ ((prs cs).length : Int) := by unfold prs; rw [List.length_map]; omega
      have hroom : roomC cs = cs := if_neg h8
      rw [← hroom] at mu
      have hne : ¬ (8 : Int) ≤ ((prs (roomC cs)).length : Int) := by rw [hroom]; exact hne
      go_wp2_with (refine wl_value rfl (exec_ld rfl rfl (ldM c0u)) ?_; refine Hid.out ?_)
      refine Hid.mk ?_
      go_wp2_with (refine wl_value rfl (exec_lenM rfl mu rfl) ?_; refine Hid.out ?_)
      refine Hid.mk ?_
      go_wp2_with (refine wl_value rfl (exec_geF (m := ((prs (roomC cs)).length : Int)) (n := 8) rfl rfl rfl hne) ?_; refine Hid.out ?_)
      refine Hid.mk ?_
      go_wp2_with fail
      exact TAIL2 _ _ _ _ _ _ _ _ _ _ _ _ _ _ _ _ _ _ _ _ _ u su mu HTU.out s3u
  clear HK1
  rcases HM.out with ⟨rfl, rfl⟩ | ⟨m, rfl, hma⟩
  · have hcn : True := trivial
    go_wp2_with (refine wl_value rfl (exec_ld rfl rfl (ldM c0)) ?_; refine Hid.out ?_)
    refine Hid.mk ?_
    go_wp2_with (refine wl_value rfl (exec_nilM0 rfl rfl) ?_; refine Hid.out ?_)
    refine Hid.mk ?_
    go_wp2_with (refine wl_mkM rfl rfl ?_; intro m w2 hm2 mu hB2; refine Hid.out ?_)
    refine Hid.mk ?_
    have hat := hat.kept hB2
    have s3 := s3.kept hB2
    go_wp2_with (refine wl_value rfl (exec_fbx 0 (by decide) rfl rfl) ?_; refine Hid.out ?_)
    refine Hid.mk ?_
    go_wp2_with (refine wl_stF (f := 0) (V' := bxV (.map (some m)) b.time begun) rfl rfl rfl rfl (by decide) (stM (some m)) hat (fun i hi => (match i, hi with | 0, _ => rfl | 1, _ => rfl | 2, _ => rfl)) ?_; intro w3 sw3 ho3; refine Hid.out ?_)
    refine Hid.mk ?_
    have hgm : g ≠ m := mu.ne hat
    have hgg : g3 ≠ g := by omega
    go_wp2_with fail
    exact TAIL _ _ _ _ _ _ _ _ _ m w3 sw3 (mu.block (ho3.block m hgm.symm)) (own_only ((touch_below (hB1.trans (hB2.mono hB1.size))).mono (fun _ _ h => h.elim)) ho3 (.inl (.inl rfl))) (s3.only ho3 hgg) (.inr ⟨trivial, trivial, Nat.le_trans hB1.size hm2⟩)
  · have hma : MapAt w m (prs cs) := hma
    go_wp2_with (refine wl_value rfl (exec_ld rfl rfl (ldM c0)) ?_; refine Hid.out ?_)
    refine Hid.mk ?_
    go_wp2_with (refine wl_value rfl (exec_nilM rfl rfl) ?_; refine Hid.out ?_)
    refine Hid.mk ?_
    go_wp2_with fail
    exact TAIL _ _ _ _ _ _ _ _ _ m w1 hat (hma.kept hB1) ((touch_below hB1).mono (fun _ _ h => h.elim)) s3 (.inl ⟨rfl, HB.out.kept hB1⟩)
end Go.Proofs.Ythnlfjkpiohooaa
/-
  Own text. A box with one heap changed, dropped or begun.
-/
namespace Go.Proofs.Ythnlfjkpiohooaa
open Go.RowKit Go.Proofs
set_option maxRecDepth 100000
def setC (cs : List Ch) (c' : Ch) : List Ch := cs.map (fun c => if c.h.fam = c'.h.fam then c' else c)
section
variable {w w' : World} {B : Nat} {N : Nat → Prop} {g m : Nat} {mv : Value} {b : Bx} {begun : Int} {cs : List Ch}
theorem BoxAt.one (h : BoxAt w B N g mv b begun cs) {c d : Ch} (hc : c ∈ cs) (hd : d ∈ cs) (e : c.h.fam = d.h.fam) : c = d := by
  have hn := h.nodup
  have hp := h.apart
  clear h
  induction cs with
  | nil => cases hc
  | cons x cs ih =>
    have hn2 : (((x.h.fam, x.blk) :: prs cs).map (·.1)).Nodup := hn
    rw [List.map_cons, List.nodup_cons] at hn2
    rw [List.pairwise_cons] at hp
    have key : ∀ y ∈ cs, y.h.fam ≠ x.h.fam := fun y hy e => hn2.1 (by show x.h.fam ∈ _; rw [← e]; exact List.mem_map_of_mem (f := fun x : Fam × Nat => x.1) (List.mem_map_of_mem (f := fun c : Ch => (c.h.fam, c.blk)) hy))
    rcases List.mem_cons.1 hc with h1 | h1 <;> rcases List.mem_cons.1 hd with h2 | h2
    · rw [h1, h2]
    · subst h1; exact absurd e.symm (key d h2)
    · subst h2; exact absurd e (key c h1)
    · exact ih h1 h2 hn2.2 hp.2
theorem BoxAt.off (h : BoxAt w B N g mv b begun cs) {c d : Ch} (hc : c ∈ cs) (hd : d ∈ cs) (hne : c.h.fam ≠ d.h.fam) {k : Nat} (hk : fp c k) : ¬ fp d k := by
  have hp := h.apart
  clear h
  induction cs with
  | nil => cases hc
  | cons x cs ih =>
    rw [List.pairwise_cons] at hp
    rcases List.mem_cons.1 hc with h1 | h1 <;> rcases List.mem_cons.1 hd with h2 | h2
    · subst h1 h2; exact absurd rfl hne
    · subst h1; exact hp.1 d h2 k hk
    · subst h2; exact fun h => hp.1 c h1 k h hk
    · exact ih h1 h2 hp.2
theorem BoxAt.swap (h : BoxAt w B N g mv b begun cs) {c0 c' : Ch} {b' : Bx} (hc0 : c0 ∈ cs) (hI : InvB b') (ht : b'.time = b.time) (hhs : (setC cs c').map Ch.h = b'.hs) (hc' : ChAt w' B c') (hfam : c'.h.fam = c0.h.fam) (hblk : c'.blk = c0.blk) (hnum : c'.num = c0.num) (hT : Touch (fp c0) w w') (hf : ∀ k, fp c' k → fp c0 k ∨ w.heap.size ≤ k) (hN : ∀ k, N k → k < w.heap.size) : BoxAt w' B N g mv b' begun (setC cs c') := by
  have hmem : ∀ c ∈ setC cs c', c = c' ∨ (c ∈ cs ∧ c.h.fam ≠ c0.h.fam) := fun c hc => by
    obtain ⟨d, hd, e⟩ := List.mem_map.1 hc
    by_cases hdf : d.h.fam = c'.h.fam
    · rw [if_pos hdf] at e; exact .inl e.symm
    · rw [if_neg hdf] at e; exact .inr (e ▸ ⟨hd, fun e2 => hdf (by rw [e2, hfam])⟩)
  have hprs : prs (setC cs c') = prs cs := by
    unfold prs setC
    rw [List.map_map]
    refine List.map_congr_left (fun d hd => ?_)
    show (fun c : Ch => (c.h.fam, c.blk)) (if d.h.fam = c'.h.fam then c' else d) = (d.h.fam, d.blk)
    by_cases hdf : d.h.fam = c'.h.fam
    · rw [if_pos hdf]
      have : d = c0 := h.one hd hc0 (by rw [hdf, hfam])
      show (c'.h.fam, c'.blk) = _
      rw [hfam, hblk, this]
    · rw [if_neg hdf]
  have hfarg := h.far c0 hc0
  have hgl := h.at_.lt
  have hfar' : ∀ k, fp c' k → k ≠ g ∧ mvB mv ≠ some k ∧ ¬ N k := fun k hk => by
    rcases hf k hk with h1 | h1
    · exact h.far c0 hc0 k h1
    · refine ⟨by omega, fun e => ?_, fun hn => by have := hN k hn; omega⟩
      rcases h.map with ⟨e2, _⟩ | ⟨m, e2, hm⟩
      · rw [e2] at e; cases e
      · rw [e2] at e; cases e; have := hm.lt; omega
  refine ⟨hI, ?_, ?_, hhs, fun c hc => ?_, ?_, ?_, fun c hc => ?_, h.beg, h.gB, fun c hc => ?_, h.gN, h.mN⟩
  · rw [ht]; exact h.at_.block (hT.block g hgl (fun hk => (hfarg g hk).1 rfl))
  · rcases h.map with ⟨e, e2⟩ | ⟨m, e, hm⟩
    · rw [e2] at hc0; cases hc0
    · refine .inr ⟨m, e, ?_⟩
      show MapAt w' m (prs (setC cs c'))
      rw [hprs]
      exact hm.block (hT.block m hm.lt (fun hk => (hfarg m hk).2.1 (by rw [e]; rfl)))
  · rcases hmem c hc with rfl | ⟨h1, h2⟩
    · exact hc'
    · exact (h.all c h1).block (fun k hk => hT.block k ((h.all c h1).lt hk) (h.off h1 hc0 h2 hk))
  · unfold setC
    rw [List.pairwise_map]
    refine h.apart.imp_of_mem (fun {x y} hx hy hxy => ?_)
    by_cases h1 : x.h.fam = c'.h.fam <;> by_cases h2 : y.h.fam = c'.h.fam
    · have : x = y := h.one hx hy (by rw [h1, h2])
      subst this
      exact absurd (show fp x x.blk from .inl rfl) (hxy x.blk (.inl rfl))
    · rw [if_pos h1, if_neg h2]
      have e : x = c0 := h.one hx hc0 (by rw [h1, hfam])
      subst e
      intro k hk hk2
      rcases hf k hk with h3 | h3
      · exact hxy k h3 hk2
      · have := (h.all y hy).lt hk2; omega
    · rw [if_neg h1, if_pos h2]
      have e : y = c0 := h.one hy hc0 (by rw [h2, hfam])
      subst e
      intro k hk hk2
      rcases hf k hk2 with h3 | h3
      · exact hxy k hk h3
      · have := (h.all x hx).lt hk; omega
    · rw [if_neg h1, if_neg h2]
      exact hxy
  · unfold setC
    rw [List.pairwise_map]
    refine h.num.imp_of_mem (fun {x y} hx hy hxy => ?_)
    by_cases h1 : x.h.fam = c'.h.fam <;> by_cases h2 : y.h.fam = c'.h.fam
    · have : x = y := h.one hx hy (by rw [h1, h2])
      subst this
      omega
    · rw [if_pos h1, if_neg h2, hnum, ← h.one hx hc0 (by rw [h1, hfam])]
      exact hxy
    · rw [if_neg h1, if_pos h2, hnum, ← h.one hy hc0 (by rw [h2, hfam])]
      exact hxy
    · rw [if_neg h1, if_neg h2]
      exact hxy
  · rcases hmem c hc with rfl | ⟨h1, _⟩
    · rw [hnum]; exact h.num0 c0 hc0
    · exact h.num0 c h1
  · rcases hmem c hc with rfl | ⟨h1, _⟩
    · exact hfar'
    · exact h.far c h1
theorem set_hs (h : BoxAt w B N g mv b begun cs) {c0 c' : Ch} {l : List Pk} (hc0 : c0 ∈ cs) (e : c'.h = { c0.h with ps := l }) : (setC cs c').map Ch.h = setF b.hs c0.h.fam l := by
  rw [← h.hs]
  unfold setC setF
  rw [List.map_map, List.map_map]
  refine List.map_congr_left (fun d hd => ?_)
  have hf : c'.h.fam = c0.h.fam := by rw [e]
  show (if d.h.fam = c'.h.fam then c' else d).h = if d.h.fam = c0.h.fam then { d.h with ps := l } else d.h
  rw [hf]
  by_cases hdf : d.h.fam = c0.h.fam
  · rw [if_pos hdf, if_pos hdf, e, h.one hd hc0 hdf]
  · rw [if_neg hdf, if_neg hdf]
def offC (F : Fam) (c : Ch) : Bool := !decide (c.h.fam = F)
theorem prs_off (cs : List Ch) (F : Fam) : (prs cs).filter (fun d => !decide (d.1 = F)) = prs (cs.filter (offC F)) := by
  unfold prs
  rw [List.filter_map]
  rfl
theorem BoxAt.rid (h : BoxAt w B N g (.map (some m)) b begun cs) (F : Fam) (hm : MapAt w' m ((prs cs).filter (fun d => !decide (d.1 = F)))) (ht : Touch (fun k => k = m) w w') : BoxAt w' B N g (.map (some m)) ⟨b.time, dropF b.hs F⟩ begun (cs.filter (offC F)) := by
  rw [prs_off] at hm
  exact h.drop (offC F) (fun h => !decide (h.fam = F)) (fun _ => rfl) hm ht
theorem room_sub (cs : List Ch) : List.Sublist (roomC cs) cs := by
  unfold roomC
  split
  · exact List.drop_sublist _ _
  · exact List.Sublist.refl _
theorem room_hs {cs : List Ch} {hs : List Hp} (h : cs.map Ch.h = hs) : (roomC cs).map Ch.h = roomF hs := by
  subst h
  unfold roomC roomF
  rw [List.length_map]
  split
  · rw [List.map_drop]
  · rfl
theorem BoxAt.fresh {w2 : World} (h : BoxAt w B N g mv b begun cs) {c' : Ch} {b' : Bx} (hI : InvB b') (ht : b'.time = b.time) (hhs : roomF b.hs ++ [c'.h] = b'.hs) (hg : SAt w2 g 63 3 (bxV (.map (some m)) b.time (begun + 1))) (hm : MapAt w2 m (prs (roomC cs) ++ [(c'.h.fam, c'.blk)])) (hmv : mv = .map (some m) ∨ (mv = .map none ∧ w.heap.size ≤ m)) (hT : Touch (fun k => bxOwn g mv k) w w2) (hc' : ChAt w2 B c') (hnew : ∀ k, fp c' k → w.heap.size ≤ k ∧ k ≠ m) (hnum : c'.num = begun) (hbg : begun + 1 < 4611686018427387904) (hN : ∀ k, N k → k < w.heap.size) : BoxAt w2 B N g (.map (some m)) b' (begun + 1) (roomC cs ++ [c']) := by
  have hs := room_sub cs
  have hgl := h.at_.lt
  refine ⟨hI, by rw [ht]; exact hg, .inr ⟨m, rfl, ?_⟩, ?_, fun c hc => ?_, ?_, ?_, fun c hc => ?_, ?_, h.gB, fun c hc k hk => ?_, h.gN, fun k hk => ?_⟩
  · rw [List.map_append]; exact hm
  · rw [List.map_append, room_hs h.hs]; exact hhs
  · rcases List.mem_append.1 hc with h1 | h1
    · have h2 := hs.subset h1
      exact (h.all c h2).block (fun k hk => hT.block k ((h.all c h2).lt hk) (fun ho => by
        have hf := h.far c h2 k hk
        rcases ho with e | e
        · exact hf.1 e
        · exact hf.2.1 e))
    · simp at h1; rw [h1]; exact hc'
  · rw [List.pairwise_append]
    refine ⟨h.apart.sublist hs, List.pairwise_singleton _ _, fun x hx y hy k hk hk2 => ?_⟩
    simp at hy
    subst hy
    have := (h.all x (hs.subset hx)).lt hk
    have := (hnew k hk2).1
    omega
  · rw [List.pairwise_append]
    refine ⟨h.num.sublist hs, List.pairwise_singleton _ _, fun x hx y hy => ?_⟩
    simp at hy
    subst hy
    rw [hnum]
    exact (h.num0 x (hs.subset hx)).2
  · rcases List.mem_append.1 hc with h1 | h1
    · have := h.num0 c (hs.subset h1); omega
    · simp at h1; rw [h1, hnum]; have := h.beg; omega
  · have := h.beg; omega
  · rcases List.mem_append.1 hc with h1 | h1
    · have hf := h.far c (hs.subset h1) k hk
      refine ⟨hf.1, fun e => ?_, hf.2.2⟩
      injection e with e
      subst e
      rcases hmv with e2 | ⟨e2, h3⟩
      · exact hf.2.1 (by rw [e2]; rfl)
      · have := (h.all c (hs.subset h1)).lt hk; omega
    · simp at h1
      subst h1
      have hk2 := hnew k hk
      refine ⟨by omega, fun e => ?_, fun hn => by have := hN k hn; omega⟩
      injection e with e
      exact hk2.2 e.symm
  · injection hk with e
    subst e
    rcases hmv with e2 | ⟨e2, h3⟩
    · exact h.mN m (by rw [e2]; rfl)
    · exact fun hn => by have := hN m hn; omega
end
end Go.Proofs.Ythnlfjkpiohooaa
