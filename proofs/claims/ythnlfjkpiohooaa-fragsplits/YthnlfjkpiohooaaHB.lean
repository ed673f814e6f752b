/-
  Own text. Lists of packets held against each other, and a list of headers written over.
-/
import Derived.Test.YthnlfjkpiohooaaHA
import Derived.Test.YthnlfjkpiohooaaJ9
namespace Go.Proofs.Ythnlfjkpiohooaa
open Go.RowKit Go.Proofs
set_option maxRecDepth 100000
theorem split_exts {P : Pk} {mtu id : Int} : ∀ x ∈ (splitP P mtu id).1, x.exts = P.exts := by
  intro x hx
  unfold splitP at hx
  split at hx
  · cases hx
  · split at hx
    · cases hx
    · split at hx
      · have : x = P := by simpa using hx
        rw [this]
      · split at hx
        · cases hx
        · split at hx
          · cases hx
          · obtain ⟨j, _, rfl⟩ := List.mem_map.1 (show x ∈ cutN P id _ _ from hx)
            exact head_exts P id
theorem samH_self (P : Pk) : samP P P = true := samP_iff.2 ⟨rfl, fun _ _ => rfl, rfl, fun _ _ => rfl, rfl, rfl, rfl, rfl, rfl, rfl, rfl, rfl, rfl, rfl, rfl, rfl⟩
theorem PkSl.shape {w : World} {v : Value} {l : List (Pk × Value)} (h : PkSl w v l) : ∃ p c, v = .slice p l.length c ∧ l.length ≤ c := by
  obtain ⟨p, c, e, hc, _⟩ := h
  exact ⟨p, c, e, hc⟩
theorem PkSl.some {w : World} {p : Option Addr} {n c : Nat} {l : List (Pk × Value)} (h : PkSl w (.slice p n c) l) (hl : 0 < l.length) : ∃ b q, p = some ⟨b, q, none⟩ ∧ b < w.heap.size := by
  obtain ⟨p', c', e, _, h1, _⟩ := h
  injection e with e1 e2 e3
  obtain ⟨b, q, hp, hf⟩ := h1 0 l[0] (List.getElem?_eq_getElem hl)
  exact ⟨b, q, e1.trans hp, World.block_lt_of_cell? _ _ (hf 0 (by decide))⟩
theorem map_get {la lb : List (Pk × Value)} (h : la.map (·.1) = lb.map (·.1)) {i : Nat} (hi : i < la.length) : ∃ xa xb, la[i]? = some xa ∧ lb[i]? = some xb ∧ xa.1 = xb.1 := by
  have h1 : i < lb.length := by have := congrArg List.length h; simp at this; omega
  refine ⟨la[i], lb[i], List.getElem?_eq_getElem hi, List.getElem?_eq_getElem h1, ?_⟩
  have h2 := congrArg (fun l => l[i]?) h
  simp [List.getElem?_map, List.getElem?_eq_getElem hi, List.getElem?_eq_getElem h1] at h2
  exact h2
theorem en_rSame (args : Array Value) (w : World) : (callFunc 11 args).run Try.prog w = .ok (.enter 11 args) w := by kernel_rfl
theorem exec_neW {a : Act} {o : Oper} {w : World} {x y : Operand} (ho : o.op = .binOp .neq 3 x y 3) {m n : Int} {z : Bool} (hx : a.eval x = .int .i64 m) (hy : a.eval y = .int .i64 n) (hz : (!decide (m = n)) = z) : (execOp a.eval o).run Try.prog w = .ok (.value (.bool z)) w := hz ▸ cmp_ne ho hx hy
theorem exec_neE0 {a : Act} {o : Oper} {w : World} {x y : Operand} (ho : o.op = .binOp .neq 30 x y 30) {m : Int} (hx : a.eval x = .int .i64 m) (hy : a.eval y = .int .i64 m) : (execOp a.eval o).run Try.prog w = .ok (.value (.bool false)) w := by
  have h := cmp_neE (w := w) ho hx hy
  rwa [decide_eq_true rfl] at h
set_option maxHeartbeats 8000000 in
theorem samps_run (va vb : Value) (la lb : List (Pk × Value)) (w : World) (ha : PkSl w va la) (hb : PkSl w vb lb) (he : la.map (·.1) = lb.map (·.1)) (hl : ∀ x ∈ la, x.1.exts.length < 4611686018427387904) (hn : la.length ≤ 9223372036854775807) : Calls Try.prog 10 #[va, vb] w fun e w' => e = .returned (.bool true) ∧ Below w.heap.size w w' := by
  obtain ⟨pa, ca, rfl, _⟩ := ha.shape
  obtain ⟨pb, cb, rfl, _⟩ := hb.shape
  obtain ⟨n, hnn⟩ : ∃ n, la.length = n := ⟨_, rfl⟩
  have hnb : lb.length = n := by have := congrArg List.length he; simp at this; omega
  have HA := Hid.mk ha
  have HB := Hid.mk hb
  have HE := Hid.mk he
  have HL := Hid.mk hl
  have HN := Hid.mk (And.intro hn hnn)
  have HNB := Hid.mk hnb
  rw [hnn, hnb]
  rw [hnn] at HA
  rw [hnb] at HB
  clear ha hb he hl hn hnn
  go_enter Try.func10, Try.ntmps10
  go_wp2_with (refine wl_value rfl (exec_lenK rfl (by rfl)) ?_)
  go_loopg [5] n (fun gm s5 z => ∃ i : Nat, Hid (gm + i = n) ∧ s5 = .int .i64 (i : Int) ∧ Hid (Below w.heap.size w z))
  case atStart => exact ⟨0, Hid.mk (by omega), rfl, Hid.mk (Below.refl _ _)⟩
  case round =>
    obtain ⟨i, HI, rfl, HBZ⟩ := hrel
    by_cases hin : i < n
    · have HIN := Hid.mk hin
      have HII : Hid ((i : Int) < (n : Int)) := Hid.mk (by omega)
      obtain ⟨⟨Pi, ya⟩, ⟨Pj, yb⟩, hxa, hxb, hxx⟩ := map_get HE.out (i := i) (by have := HN.out.2; omega)
      have hxx : Pi = Pj := hxx
      subst hxx
      obtain ⟨pa, rfl⟩ : ∃ q, pa = some q := by
        obtain ⟨b, q, e, _⟩ := HA.out.some (by have := HN.out.2; omega)
        exact ⟨_, e⟩
      obtain ⟨pb, rfl⟩ : ∃ q, pb = some q := by
        obtain ⟨b, q, e, _⟩ := HB.out.some (by have := HNB.out; omega)
        exact ⟨_, e⟩
      obtain ⟨i1, hi1⟩ : ∃ q, i + 1 = q := ⟨_, rfl⟩
      have HI1 := Hid.mk hi1
      have HSA : Hid (PkSl wr (.slice (some pa) n ca) la) := Hid.mk (HA.out.kept HBZ.out)
      have HSB : Hid (PkSl wr (.slice (some pb) n cb) lb) := Hid.mk (HB.out.kept HBZ.out)
      have HGA := Hid.mk hxa
      have HGB := Hid.mk hxb
      have HSAM : Hid (∀ zw : World, Below wr.heap.size wr zw → Calls Try.prog 11 #[.agg (SC 46 (pkV Pi ya)), .agg (SC 46 (pkV Pi yb))] zw fun e w' => e = .returned (.bool true) ∧ Below zw.heap.size zw w') := Hid.mk (fun zw hb => by
        obtain ⟨_, _, _, _, _, h1⟩ := HSA.out.kept hb
        obtain ⟨_, _, _, _, _, h2⟩ := HSB.out.kept hb
        have hl := HL.out _ (List.mem_of_getElem? HGA.out)
        have h := rSame_run Pi Pi ya yb zw (h1 _ (List.mem_of_getElem? HGA.out)) (h2 _ (List.mem_of_getElem? HGB.out)) hl hl
        rwa [samH_self] at h)
      clear hin hxa hxb hi1
      go_wp2_with (refine wl_value rfl (exec_lenK rfl rfl) ?_; refine Hid.out ?_)
      refine Hid.mk ?_
      go_wp2_with (refine wl_value rfl (exec_ltT (m := (i : Int)) (n := (n : Int)) rfl rfl rfl HII.out) ?_; refine Hid.out ?_)
      refine Hid.mk ?_
      go_upto_region 6 with fail
      refine wp_region3 (Below wr.heap.size wr) wr.heap.size
          ([] : List (Nat × Cont))
          [kv (.slice (some pa) n ca), kv (.int .i64 (i : Int)), kv (.pointer (some (pa.add (46 * i)))), kv (.agg (SC 46 (pkV Pi ya))), kv (.slice (some pb) n cb), kv (.int .i64 (i : Int)), kv (.pointer (some (pb.add (46 * i)))), kv (.agg (SC 46 (pkV Pi yb))), kv (.bool true), kv (.bool true)]
          [.none, .none, .none, .none, .none, .none, .none, .none, .none, .none]
          [some 18, some 19, some 20, some 21, some 22, some 23, some 24, some 25, some 26, some 6]
          [(0, .slice (some pa) n ca), (5, .int .i64 (i : Int)), (1, .slice (some pb) n cb)]
          [[], [], [.slot 0, .slot 1], [.slot 2], [], [], [.slot 4, .slot 5], [.slot 6], [.slot 3, .slot 7], [.slot 8]]
          [.slot 9] [18, 19, 20, 21, 22, 23, 24, 25, 26, 6]
          rfl (by kernel_rfl) ⟨rfl, rfl, rfl, trivial⟩ ((Below.refl _ wr).drew) (Nat.le_refl _) trivial trivial (below_GcW (Nat.le_refl _))
          ⟨
          (fun QQ aa ww own hS hBg fr kn => .inl ⟨trivial, fun K hK => wp_value (exec_move rfl fr.1) (hK _ _ ⟨Touch.refl _ _, rfl⟩)⟩),
          (fun QQ aa ww own hS hBg fr kn => .inl ⟨trivial, fun K hK => wp_value (exec_move rfl fr.2.1) (hK _ _ ⟨Touch.refl _ _, rfl⟩)⟩),
          (fun QQ aa ww own hS hBg fr kn => .inl ⟨trivial, fun K hK => wp_value (exec_ixK (i := i) rfl kn.1 kn.2.1 HIN.out) (hK _ _ ⟨Touch.refl _ _, rfl⟩)⟩),
          (fun QQ aa ww own hS hBg fr kn => .inl ⟨trivial, fun K hK => wp_value (exec_ld rfl kn.1 (sl_pk (HSA.out.kept hS) HGA.out)) (hK _ _ ⟨Touch.refl _ _, rfl⟩)⟩),
          (fun QQ aa ww own hS hBg fr kn => .inl ⟨trivial, fun K hK => wp_value (exec_move rfl fr.2.2.1) (hK _ _ ⟨Touch.refl _ _, rfl⟩)⟩),
          (fun QQ aa ww own hS hBg fr kn => .inl ⟨trivial, fun K hK => wp_value (exec_move rfl fr.2.1) (hK _ _ ⟨Touch.refl _ _, rfl⟩)⟩),
          (fun QQ aa ww own hS hBg fr kn => .inl ⟨trivial, fun K hK => wp_value (exec_ixK (i := i) rfl kn.1 kn.2.1 HIN.out) (hK _ _ ⟨Touch.refl _ _, rfl⟩)⟩),
          (fun QQ aa ww own hS hBg fr kn => .inl ⟨trivial, fun K hK => wp_value (exec_ld rfl kn.1 (sl_pk (HSB.out.kept hS) HGB.out)) (hK _ _ ⟨Touch.refl _ _, rfl⟩)⟩),
          (fun QQ aa ww own hS hBg fr kn => .inl ⟨trivial, fun K hK => stepc en_rSame rfl (args2 kn.1 kn.2.1) (HSAM.out ww hS) (fun w' hb => hK _ _ ⟨touch_below hb, rfl⟩)⟩),
          (fun QQ aa ww own hS hBg fr kn => .inl ⟨trivial, fun K hK => wp_value (exec_assign rfl kn.1) (hK _ _ ⟨Touch.refl _ _, rfl⟩)⟩),
          trivial⟩ ?_
      intro vs own z2 hB2 hsz kn inj
      have e6 : vs 6 = .bool true := kn.1
      clear kn inj hsz
      simp only [putAll, Act.put, List.setIfInBounds_toArray, List.set_cons_zero, List.set_cons_succ, e6]
      clear e6
      have HB2 := Hid.mk (HBZ.out.trans (hB2.mono HBZ.out.size))
      clear hB2
      go_wp2_with (refine wl_value rfl (exec_addW (i := i) (m := 1) (q := i1) rfl rfl rfl HI1.out (by have := HI1.out; have := HIN.out; have := HN.out; omega)) ?_; refine Hid.out ?_)
      refine Hid.mk ?_
      go_wp2_with fail
      go_roundg (n - i1)
      case rel => exact ⟨i1, Hid.mk (by have := HI1.out; have := HIN.out; omega), rfl, HB2⟩
      case measure => have := HI.out; have := HI1.out; have := HIN.out; omega
    · have HII : Hid ((n : Int) ≤ (i : Int)) := Hid.mk (by omega)
      clear hin
      go_wp2_with (refine wl_value rfl (exec_lenK rfl rfl) ?_; refine Hid.out ?_)
      refine Hid.mk ?_
      go_wp2_with (refine wl_value rfl (exec_ltF (m := (i : Int)) (n := (n : Int)) rfl rfl rfl (Int.not_lt.2 HII.out)) ?_; refine Hid.out ?_)
      refine Hid.mk ?_
      go_wp2_with fail
      go_ret
      exact ⟨rfl, HBZ.out⟩
theorem en_samp (args : Array Value) (w : World) : (callFunc 10 args).run Try.prog w = .ok (.enter 10 args) w := by kernel_rfl
theorem exec_bd7 {a : Act} {o : Oper} {w : World} {x : Operand} (ho : o.op = .build 60 #[(0, x)]) {k : Int} (hx : a.eval x = .int .i64 k) : (execOp a.eval o).run Try.prog w = .ok (.value (.agg (SC 2 (exV ⟨k, ByteArray.empty⟩)))) w := by
  have hr : (Instr.build 60 #[(0, .int .i64 k)]).run Try.prog w = .ok (.agg (SC 2 (exV ⟨k, ByteArray.empty⟩))) w := by kernel_rfl
  unfold execOp
  simp only [ho, List.map_toArray, List.map_cons, List.map_nil, hx, Sem.run_bind, hr, Result.andThen_ok, Sem.run_pure]
theorem wl_stX7 {ops : Array Oper} {rest : List Oper} {o : Oper} {a : Act} {w : World} {x y : Operand} {Q : Exit → Act → World → Prop} {b off k : Nat} {e : Ex} {C : Array Value} {t : TypeId} (ho : o.op = .store 60 x y) (hw : Region.wanted o (yielded ops a.tmps) = true) (hx : a.eval x = .pointer (some ⟨b, off + k, none⟩)) (hy : a.eval y = .agg (SC 2 (exV e)))
    (hg : w.heap[b]? = some (.cells C t (0, 0))) (hl : off + k + 2 ≤ C.size)
    (h : ∀ w2 C2, w2.heap[b]? = some (.cells C2 t (0, 0)) → C2.size = C.size → Only b w w2 → wpList Try.prog ops Q rest (a.put o.dst undef) w2) : wpList Try.prog ops Q (o :: rest) a w := by
  refine wl_act hw ?_
  have hlen : (SC 2 (exV e)).toList.length = 2 := by rw [Array.length_toList, SC_size]
  obtain ⟨C2, h1, h2, _, _, h5⟩ := setCells_heap (SC 2 (exV e)).toList (off + k) w C hg (by rw [hlen]; exact hl)
  refine wp_store_mid 60 x y ho b (off + k) (SC 2 (exV e)) hx hy (there_row hg (by rw [SC_size]; exact hl)) (by rw [SC_size]; kernel_rfl) (SC_one (exV_one e)) ?_
  exact h _ C2 h1 h2 h5
set_option maxHeartbeats 8000000 in
theorem mar_run (P : Pk) (v : Value) (w : World) (hx : ExAt w v P.exts) (hf : ∀ k, exK v = some k → ∃ C t, w.heap[k]? = some (.cells C t (0, 0))) (hn : P.exts.length < 4611686018427387904) : Calls Try.prog 12 #[.agg (SC 46 (pkV P v))] w fun e w' => e = .returned (.tuple #[]) ∧ Touch (fun k => exK v = some k) w w' := by
  have hv1 := hx.one
  obtain ⟨ad, cap, rfl, hc⟩ := hx
  obtain ⟨n, hnn⟩ : ∃ n, P.exts.length = n := ⟨_, rfl⟩
  have HF : Hid (0 < n → ∃ b off C t, ad = some ⟨b, off, none⟩ ∧ exK (.slice ad n cap) = some b ∧ b < w.heap.size ∧ w.heap[b]? = some (.cells C t (0, 0)) ∧ off + 2 * n ≤ C.size) := Hid.mk (fun h0 => by
    obtain ⟨ad', e, hlt, h1, h2⟩ := hc (n - 1) P.exts[n - 1] (List.getElem?_eq_getElem (by omega))
    subst e
    obtain ⟨b, off, sp⟩ := ad'
    have hk : exK (.slice (some ⟨b, off, sp⟩) n cap) = some b := by
      cases n with
      | zero => omega
      | succ n => rfl
    obtain ⟨C, t, hg⟩ := hf b (by rw [hnn]; exact hk)
    have hsp : sp = none := by
      cases sp with
      | none => rfl
      | some q =>
        obtain ⟨ad2, e2, _, h3, _⟩ := hc 0 P.exts[0] (List.getElem?_eq_getElem (by omega))
        injection e2 with e2
        subst e2
        have h3 : World.cell? w ((⟨b, off, some q⟩ : Addr).add 0) = _ := h3
        rw [Addr.add_zero'] at h3
        unfold World.cell? at h3
        simp [hg] at h3
    subst hsp
    refine ⟨b, off, C, t, rfl, hk, hlt, hg, ?_⟩
    rw [Addr.add_lit, cell_of_row w b _ _ _ _ hg] at h2
    have := (Array.getElem?_eq_some_iff.1 h2).1
    omega)
  have HN := Hid.mk (And.intro hn hnn)
  rw [hnn]
  rw [hnn] at hv1
  clear hc hf hn hnn
  go_enter Try.func12, Try.ntmps12
  go_wp2_with (refine wl_boxO (V := pkV P (.slice ad n cap)) rfl rfl isPk rfl ?_; intro g1 w1 hg1 s1 hB1; refine Hid.out ?_)
  refine Hid.mk ?_
  have HB1 := Hid.mk hB1
  have HG1 := Hid.mk hg1
  clear hB1 hg1
  go_wp2_with fail
  go_loopg [2] n (fun gm s2 z => ∃ i : Nat, Hid (gm + i = n) ∧ s2 = .int .i64 (i : Int) ∧ Hid (SAt z g1 27 46 (pkV P (.slice ad n cap))) ∧ Hid (Touch (fun k => exK (.slice ad n cap) = some k) w z) ∧ Hid (∀ b off, 0 < n → ad = some ⟨b, off, none⟩ → ∃ C t, z.heap[b]? = some (.cells C t (0, 0)) ∧ off + 2 * n ≤ C.size))
  case atStart =>
    refine ⟨0, Hid.mk (by omega), rfl, Hid.mk s1, Hid.mk ((touch_below HB1.out).mono (fun _ _ h => h.elim)), Hid.mk (fun b off h0 e => ?_)⟩
    obtain ⟨b', off', C, t, e2, _, h1, h2, h3⟩ := HF.out h0
    rw [e2] at e
    injection e with e
    injection e with e3 e4
    subst e3 e4
    exact ⟨C, t, by rw [HB1.out.block _ h1]; exact h2, h3⟩
  case round =>
    obtain ⟨i, HI, rfl, HS1, HT, HC⟩ := hrel
    by_cases hin : i < n
    · have HIN := Hid.mk hin
      have HII : Hid ((i : Int) < (n : Int)) := Hid.mk (by omega)
      obtain ⟨b, off, _, _, rfl, hk, hbl, _, _⟩ := HF.out (by omega)
      obtain ⟨C, t, hg, hsz⟩ := HC.out b off (by omega) rfl
      have HBB := Hid.mk (And.intro hk (And.intro hbl (show g1 ≠ b by have := HG1.out; omega)))
      have HGC := Hid.mk (And.intro hg hsz)
      obtain ⟨i1, hi1⟩ : ∃ q, i + 1 = q := ⟨_, rfl⟩
      have HI1 := Hid.mk hi1
      clear hin hk hbl hg hsz hi1
      go_wp2_with (refine wl_value rfl (exec_fpkL 11 43 (by decide) rfl rfl rfl) ?_; refine Hid.out ?_)
      refine Hid.mk ?_
      go_wp2_with (refine wl_value rfl (exec_ld rfl rfl (ldPx (pk_exts HS1.out))) ?_; refine Hid.out ?_)
      refine Hid.mk ?_
      go_wp2_with (refine wl_value rfl (exec_lenX rfl rfl) ?_; refine Hid.out ?_)
      refine Hid.mk ?_
      go_wp2_with (refine wl_value rfl (exec_ltT (m := (i : Int)) (n := (n : Int)) rfl rfl rfl HII.out) ?_; refine Hid.out ?_)
      refine Hid.mk ?_
      go_wp2_with (refine wl_value rfl (exec_fpkL 11 43 (by decide) rfl rfl rfl) ?_; refine Hid.out ?_)
      refine Hid.mk ?_
      go_wp2_with (refine wl_value rfl (exec_ld rfl rfl (ldPx (pk_exts HS1.out))) ?_; refine Hid.out ?_)
      refine Hid.mk ?_
      go_wp2_with (refine wl_value rfl (exec_bd7 (k := -7) rfl rfl) ?_; refine Hid.out ?_)
      refine Hid.mk ?_
      go_wp2_with (refine wl_value rfl (exec_ixE (i := i) rfl rfl rfl HIN.out) ?_; refine Hid.out ?_)
      refine Hid.mk ?_
      go_wp2_with (refine wl_stX7 (b := b) (off := off) (k := 2 * i) (e := ⟨-7, ByteArray.empty⟩) rfl rfl rfl rfl HGC.out.1 (by have := HGC.out.2; have := HIN.out; omega) ?_; intro z2 C2 hg2 hs2 ho2; refine Hid.out ?_)
      refine Hid.mk ?_
      have HS2 := Hid.mk (HS1.out.only ho2 HBB.out.2.2)
      have HT2 := Hid.mk (Touch.tr HT.out ((touch_only ho2).mono (fun k _ (e : k = b) => by rw [e]; exact HBB.out.1)))
      have HC2 := Hid.mk (And.intro hg2 hs2)
      clear hg2 hs2 ho2
      go_wp2_with (refine wl_value rfl (exec_addW (i := i) (m := 1) (q := i1) rfl rfl rfl HI1.out (by have := HI1.out; have := HIN.out; have := HN.out; omega)) ?_; refine Hid.out ?_)
      refine Hid.mk ?_
      go_wp2_with fail
      go_roundg (n - i1)
      case rel => exact ⟨i1, Hid.mk (by have := HI1.out; have := HIN.out; omega), rfl, HS2, HT2, Hid.mk (fun b' off' _ e => by
        injection e with e
        injection e with e3 e4
        subst e3 e4
        exact ⟨_, _, HC2.out.1, by rw [HC2.out.2]; exact HGC.out.2⟩)⟩
      case measure => have := HI.out; have := HI1.out; have := HIN.out; omega
    · have HII : Hid ((n : Int) ≤ (i : Int)) := Hid.mk (by omega)
      clear hin
      go_wp2_with (refine wl_value rfl (exec_fpkL 11 43 (by decide) rfl rfl rfl) ?_; refine Hid.out ?_)
      refine Hid.mk ?_
      go_wp2_with (refine wl_value rfl (exec_ld rfl rfl (ldPx (pk_exts HS1.out))) ?_; refine Hid.out ?_)
      refine Hid.mk ?_
      go_wp2_with (refine wl_value rfl (exec_lenX rfl rfl) ?_; refine Hid.out ?_)
      refine Hid.mk ?_
      go_wp2_with (refine wl_value rfl (exec_ltF (m := (i : Int)) (n := (n : Int)) rfl rfl rfl (Int.not_lt.2 HII.out)) ?_; refine Hid.out ?_)
      refine Hid.mk ?_
      go_wp2_with fail
      exact bodyPost_end (results_none rfl _ _ _) rfl ⟨rfl, HT.out⟩
end Go.Proofs.Ythnlfjkpiohooaa
