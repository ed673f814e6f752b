/-
  Own text. FragSplits: a packet is cut into just the pieces that the document says, or is refused; lists are apart, and it stays as it is.
-/
import Derived.Test.YthnlfjkpiohooaaHB
import Derived.Test.YthnlfjkpiohooaaJ9
namespace Go.Proofs.Ythnlfjkpiohooaa
open Go.RowKit Go.Proofs
set_option maxRecDepth 100000
theorem slP_lo (g q0 m c k : Nat) (hk : k ≤ m) (hm : m ≤ c) : ∃ q cq, (∀ w, (Instr.sliceAt 29 (.slice (some ⟨g, q0, none⟩) m c) (some (.int .i64 (k : Int))) none none).run Try.prog w = .ok (.slice (some ⟨g, q, none⟩) (m - k) cq) w) ∧ (k < m → q = q0 + 46 * k) ∧ m - k ≤ cq := by
  have h2 : (k : Int) ≤ (m : Int) := by omega
  by_cases e : c = k
  · exact ⟨q0, c - k, fun w => by simp [go_sem, h2, e], fun h => by omega, by omega⟩
  · exact ⟨q0 + k * 46, c - k, fun w => by simp [go_sem, h2, e], fun _ => by omega, by omega⟩
theorem sl_drop {w0 w : World} {b q0 q n c cq k : Nat} {l : List (Pk × Value)} (h : PkSl w0 (.slice (some ⟨b, q0, none⟩) n c) l) (hq : k < n → q = q0 + 46 * k) (hcq : n - k ≤ cq) (hb : w.heap[b]? = w0.heap[b]?) (hx : ∀ x ∈ l.drop k, ExAt w x.2 x.1.exts) : PkSl w (.slice (some ⟨b, q, none⟩) (n - k) cq) (l.drop k) := by
  obtain ⟨p', c', e, hc, h1, _⟩ := h
  injection e with e1 e2 e3
  subst e1
  refine ⟨_, cq, by rw [List.length_drop, e2], by rw [List.length_drop]; omega, fun j x hj => ⟨b, q, rfl, fun f hf => ?_⟩, hx⟩
  rw [List.getElem?_drop] at hj
  have hkn : k < n := by have := (List.getElem?_eq_some_iff.1 hj).1; omega
  obtain ⟨b', q', hp, hf'⟩ := h1 (k + j) x hj
  injection hp with hp
  injection hp with hp1 hp2
  subst hp1 hp2
  have h3 := hf' f hf
  rw [hq hkn, show q0 + 46 * k + 46 * j + f = q0 + 46 * (k + j) + f by omega]
  exact (cell_blk hb).trans h3
theorem sl_pkB {w0 w : World} {b q n c : Nat} {l : List (Pk × Value)} (h : PkSl w0 (.slice (some ⟨b, q, none⟩) n c) l) (hb : w.heap[b]? = w0.heap[b]?) {i : Nat} {x : Pk × Value} (hi : l[i]? = some x) : (Instr.loadAt 27 (.pointer (some ((⟨b, q, none⟩ : Addr).add (46 * i))))).run Try.prog w = .ok (.agg (SC 46 (pkV x.1 x.2))) w := by
  obtain ⟨p', c', e, _, h1, _⟩ := h
  injection e with e1 e2 e3
  subst e1
  obtain ⟨b', q', hp, hf⟩ := h1 i x hi
  injection hp with hp
  injection hp with hp1 hp2
  subst hp1 hp2
  refine ld_row isPk (fun k hk => ?_)
  rw [Addr.add_add, Addr.add_lit, ← Nat.add_assoc]
  exact (cell_blk hb).trans (hf k hk)
theorem PkRow.few {w : World} {B C : Nat} {v : Value} {l : List (Pk × Value)} (h : PkRow w B C v l) : l.length ≤ 9223372036854775807 := by
  rcases h.row.2 with ⟨_, h0⟩ | ⟨_, cap, _, _, _, _, hc, hm, _⟩
  · omega
  · unfold maxLen at hm
    omega
theorem drop_mem {l : List (Pk × Value)} {i : Nat} {x : Pk × Value} (h : x ∈ l.drop i) : ∃ j, i ≤ j ∧ l[j]? = some x := by
  obtain ⟨j, hj⟩ := List.mem_iff_getElem?.1 h
  rw [List.getElem?_drop] at hj
  exact ⟨i + j, by omega, hj⟩
theorem take_mem {l : List (Pk × Value)} {i : Nat} {x : Pk × Value} (h : x ∈ l.take i) : ∃ j, j < i ∧ l[j]? = some x := by
  obtain ⟨j, hj⟩ := List.mem_iff_getElem?.1 h
  rw [List.getElem?_take] at hj
  split at hj
  · rename_i hlt
    exact ⟨j, hlt, hj⟩
  · cases hj
theorem mem_take {l : List (Pk × Value)} {i j : Nat} {x : Pk × Value} (h : l[j]? = some x) (hj : j < i) : x ∈ l.take i := by
  refine List.mem_iff_getElem?.2 ⟨j, ?_⟩
  rw [List.getElem?_take, if_pos hj]
  exact h
theorem apart_at {l : List (Pk × Value)} (h : l.Pairwise (fun x y => ∀ k, exK x.2 = some k → exK y.2 ≠ some k)) {i j : Nat} {x y : Pk × Value} (hx : l[i]? = some x) (hy : l[j]? = some y) (hij : i < j) (k : Nat) (hk : exK x.2 = some k) : exK y.2 ≠ some k := by
  obtain ⟨h1, h2⟩ := List.getElem?_eq_some_iff.1 hx
  obtain ⟨h3, h4⟩ := List.getElem?_eq_some_iff.1 hy
  subst h2 h4
  exact (List.pairwise_iff_getElem.1 h) i j h1 h3 hij k hk
set_option maxHeartbeats 16000000 in
theorem splits_walk (P : Pk) (v : Value) (mtu id : Int) (w : World) (hx : ExAt w v P.exts) (hP : PkIn P) : Calls Try.prog 3 #[.agg (SC 46 (pkV P v)), .int .i64 mtu, .int .i64 id] w fun e w' => e = .returned (.bool true) ∧ Below w.heap.size w w' := by
  have HX := Hid.mk hx
  have HPI := Hid.mk hP
  have hv1 := hx.one
  have HRS : Hid (∀ z, ExAt z v P.exts → Calls Try.prog 8 #[.agg (SC 46 (pkV P v)), .int .i64 mtu, .int .i64 id] z fun e w' => SplPost (splitP P mtu id).2 (splitP P mtu id).1 e w' ∧ Below z.heap.size z w') := Hid.mk (fun z h => rSplit_run P v mtu id z h hP.len hP.b hP.p)
  have HCS : Hid (∀ u z, ExAt z u P.exts → Calls Try.prog 9 #[.agg (SC 46 (pkV P u)), .int .i64 mtu, .int .i64 id] z fun e w' => CutPost z.heap.size (splitP P mtu id).2 (splitP P mtu id).1 e w' ∧ Below z.heap.size z w') := Hid.mk (fun u z h => Split_run P u mtu id z h hP.len hP.b hP.p)
  have HEX : Hid (∀ x ∈ (splitP P mtu id).1, x.exts = P.exts) := Hid.mk split_exts
  clear hx hP
  obtain ⟨er, her⟩ : ∃ e, (splitP P mtu id).2 = e := ⟨_, rfl⟩
  obtain ⟨LL, hLL⟩ : ∃ e, (splitP P mtu id).1 = e := ⟨_, rfl⟩
  rw [her, hLL] at HRS HCS
  rw [hLL] at HEX
  clear her hLL
  go_enter Try.func3, Try.ntmps3
  go_wp2_with (refine wl_boxO (V := pkV P v) rfl rfl isPk rfl ?_; intro g3 w1 hg3 s3 hB1; refine Hid.out ?_)
  refine Hid.mk ?_
  go_wp2_with (go_at_call 7; refine (awake14_run _).mono ?_; rintro e w2 ⟨rfl, hB2⟩; refine Hid.out ?_)
  refine Hid.mk ?_
  have s3 := s3.kept hB2
  have hBa := hB1.trans (hB2.mono hB1.size)
  have X2 := Hid.mk (HX.out.kept hBa)
  clear hB1 hB2
  go_wp2_with (refine wl_value rfl (look_st rfl isPk s3 rfl) ?_; refine Hid.out ?_)
  refine Hid.mk ?_
  go_wp2_with (go_at_call 8; refine (HRS.out _ X2.out).mono ?_; rintro e w3 ⟨⟨va, lw, rfl, hsw, hlw⟩, hB3⟩; refine Hid.out ?_)
  refine Hid.mk ?_
  have s3 := s3.kept hB3
  have hBb := hBa.trans (hB3.mono hBa.size)
  have hl3 := s3.lt
  go_wp2_with (refine wl_value rfl (look_st rfl isPk s3 rfl) ?_; refine Hid.out ?_)
  refine Hid.mk ?_
  go_wp2_with (refine wl_alO rfl rfl zeroPk ?_; intro g10 w4 hg10 s10 hB4; refine Hid.out ?_)
  refine Hid.mk ?_
  have hne : g3 ≠ g10 := by omega
  have hgw : w.heap.size ≤ g10 := by have := hBb.size; omega
  have hg10' := hg10
  have s3 := s3.kept hB4
  go_wp2_with (refine st_stO (V := pkV P v) (g := g10) rfl rfl isPk (pkV_one hv1) s10 rfl rfl ?_; intro w5 s10 ho5; refine Hid.out ?_)
  refine Hid.mk ?_
  have s3 := s3.only ho5 hne
  go_wp2_with (refine wl_value rfl (exec_fpkL 11 43 (by decide) rfl rfl rfl) ?_; refine Hid.out ?_)
  refine Hid.mk ?_
  go_wp2_with (refine wl_stP (z := .slice none 0 0) (V' := pkV P (.slice none 0 0)) rfl rfl rfl rfl (by decide) stX s10 (pk_up43 _ _ _) ?_; intro w6 s10 ho6; refine Hid.out ?_)
  refine Hid.mk ?_
  have s3 := s3.only ho6 hne
  have o56 := ho5.trans ho6
  have hB46 : Below w3.heap.size w3 w6 := hB4.trans (o56.below hg10)
  have X6 := Hid.mk ((X2.out.kept hB3).kept hB46)
  have HSW3 := Hid.mk hsw
  have HB3W := Hid.mk hBb
  have HB36 := Hid.mk hB46
  have HGN := Hid.mk (And.intro hgw (And.intro hne hg10'))
  have HN24 : Hid (P.exts.length * 24 ≤ 140737488355328) := Hid.mk (by have := HPI.out.n; omega)
  have HLW := Hid.mk hlw
  have HG10 : Hid (g10 < w6.heap.size) := Hid.mk s10.lt
  clear hsw hlw hBa hBb hB3 hB4 ho5 ho6 o56 hB46 X2 hl3 hg10 hgw hne hg10'
  go_wp2_with (refine wl_value rfl (exec_fpkL 11 43 (by decide) rfl rfl rfl) ?_; refine Hid.out ?_)
  refine Hid.mk ?_
  go_wp2_with (refine wl_value rfl (exec_ld rfl rfl (ldPx (pk_exts s10))) ?_; refine Hid.out ?_)
  refine Hid.mk ?_
  go_wp2_with (refine wl_value rfl (exec_fpkL 11 43 (by decide) rfl rfl rfl) ?_; refine Hid.out ?_)
  refine Hid.mk ?_
  go_wp2_with (refine wl_value rfl (exec_ld rfl rfl (ldPx (pk_exts s3))) ?_; refine Hid.out ?_)
  refine Hid.mk ?_
  go_wp2_with (refine wl_apN rfl rfl rfl rfl X6.out HN24.out ?_; intro v1 w7 hr7 hB7; refine Hid.out ?_)
  refine Hid.mk ?_
  have hnew := own_new hr7
  have h11 := hnew.1
  obtain ⟨a1, c1, rfl, _⟩ := h11
  have s3 := s3.kept hB7
  have s10 := s10.kept hB7
  go_wp2_with (refine wl_value rfl (exec_fpkL 11 43 (by decide) rfl rfl rfl) ?_; refine Hid.out ?_)
  refine Hid.mk ?_
  go_wp2_with (refine wl_stP (z := .slice a1 P.exts.length c1) (V' := pkV P (.slice a1 P.exts.length c1)) rfl rfl rfl rfl (by decide) stX s10 (pk_up43 _ _ _) ?_; intro w8 s10 ho8; refine Hid.out ?_)
  refine Hid.mk ?_
  have s3 := s3.only ho8 HGN.out.2.1
  have hB38 : Below w3.heap.size w3 w8 := HB36.out.trans ((hB7.mono HB36.out.size).trans (ho8.below HGN.out.2.2))
  obtain ⟨nb, hnb⟩ : ∃ nb, w8.heap.size = nb := ⟨_, rfl⟩
  have HNB := Hid.mk hnb
  have HB8 := Hid.mk (HB3W.out.trans (hB38.mono HB3W.out.size))
  have HZ8 : Hid (w.heap.size ≤ nb) := Hid.mk (by have := HB8.out.size; omega)
  have HF : Hid (SAt w8 g3 27 46 (pkV P v) ∧ SAt w8 g10 27 46 (pkV P (.slice a1 P.exts.length c1)) ∧ ExAt w8 v P.exts ∧ ExAt w8 (.slice a1 P.exts.length c1) P.exts ∧ PkSl w8 va lw) := Hid.mk ⟨s3, s10, HX.out.keep (fun k hk => HB8.out.block k hk), (hnew.only ho8 HG10.out).1, HSW3.out.kept hB38⟩
  clear s3 s10 hnew hr7 hB7 ho8 hB38 X6 HB36 HSW3 HB3W HGN HG10 HN24
  obtain ⟨pw, cw, rfl, hcw⟩ := HF.out.2.2.2.2.shape
  obtain ⟨n, hn⟩ : ∃ n, lw.length = n := ⟨_, rfl⟩
  have HNW := Hid.mk (And.intro hn hcw)
  rw [hn]
  rw [hn] at HF
  go_wp2_with fail
  go_loopg [11] 2 (fun gm s11 z => ∃ t : Nat, Hid (gm + t = 2) ∧ s11 = .int .i64 (t : Int) ∧ Hid (nb ≤ z.heap.size ∧ Below nb w8 z))
  case atStart => exact ⟨0, Hid.mk rfl, rfl, Hid.mk ⟨by omega, by rw [← hnb]; exact Below.refl _ _⟩⟩
  case round =>
    obtain ⟨t, HT, rfl, HBZ⟩ := hrel
    generalize wr = zr at *
    generalize gk = gz at *
    by_cases ht : t < 2
    · have HTI : Hid ((t : Int) < 2) := Hid.mk (by omega)
      obtain ⟨t1, ht1⟩ : ∃ q, t + 1 = q := ⟨_, rfl⟩
      have HT1 := Hid.mk (And.intro ht1 ht)
      clear ht ht1
      have HAT : Hid (∀ z, nb ≤ z.heap.size → (∀ k, k < nb → z.heap[k]? = w8.heap[k]?) → SAt z g3 27 46 (pkV P v) ∧ SAt z g10 27 46 (pkV P (.slice a1 P.exts.length c1)) ∧ ExAt z v P.exts ∧ ExAt z (.slice a1 P.exts.length c1) P.exts ∧ PkSl z (.slice pw n cw) lw) := Hid.mk (fun z hz hk => by
        have h := HF.out
        have hn := HNB.out
        exact ⟨h.1.block (hk _ (by have := h.1.lt; omega)), h.2.1.block (hk _ (by have := h.2.1.lt; omega)), h.2.2.1.keep (fun k hk2 => hk k (by omega)), h.2.2.2.1.keep (fun k hk2 => hk k (by omega)), h.2.2.2.2.keepB (by omega) (fun k hk2 => hk k (by omega))⟩)
      have HKZ : Hid (∀ k, k < nb → zr.heap[k]? = w8.heap[k]?) := Hid.mk (fun k hk => HBZ.out.2.block k hk)
      have hat := HAT.out zr HBZ.out.1 HKZ.out
      have s10 := hat.2.1
      have XV := Hid.mk hat.2.2.2.1
      clear hat
      go_wp2_with (refine wl_value rfl (exec_ltT (m := (t : Int)) (n := 2) rfl rfl rfl HTI.out) ?_; refine Hid.out ?_)
      refine Hid.mk ?_
      go_wp2_with (refine wl_value rfl (look_st rfl isPk s10 rfl) ?_; refine Hid.out ?_)
      refine Hid.mk ?_
      go_wp2_with (go_at_call 9; refine (HCS.out _ _ XV.out).mono ?_; rintro e u1 ⟨⟨vc, lc, rfl, hrc, hlc⟩, hB1⟩; refine Hid.out ?_)
      refine Hid.mk ?_
      have HRC := Hid.mk hrc
      have HLC : Hid (lc.map (·.1) = lw.map (·.1) ∧ ∀ x ∈ lc, x.1.exts = P.exts) := Hid.mk ⟨by rw [hlc, HLW.out], fun x hx => HEX.out _ (by rw [← hlc]; exact List.mem_map.2 ⟨x, hx, rfl⟩)⟩
      have hk1 : ∀ k, k < nb → u1.heap[k]? = w8.heap[k]? := fun k hk => (hB1.block k (by have := HBZ.out.1; omega)).trans (HKZ.out k hk)
      have hat := HAT.out u1 (by have := HBZ.out.1; have := hB1.size; omega) hk1
      have HA1 := Hid.mk hat
      have HB1 := Hid.mk hB1
      clear hrc hlc hk1 hat hB1 s10 XV
      go_wp2_with (go_at_call 10; refine (samps_run vc (.slice pw n cw) lc lw _ HRC.out.sl HA1.out.2.2.2.2 HLC.out.1 (fun x hx => by rw [HLC.out.2 x hx]; exact HPI.out.len) HRC.out.few).mono ?_; rintro e u2 ⟨rfl, hB2⟩; refine Hid.out ?_)
      refine Hid.mk ?_
      have s3 := HA1.out.1.kept hB2
      have s10 := HA1.out.2.1.kept hB2
      have HX2 := Hid.mk (And.intro (HA1.out.2.2.1.kept hB2) (HA1.out.2.2.2.1.kept hB2))
      have HB2 := Hid.mk hB2
      clear hB2
      go_wp2_with (refine wl_value rfl (look_st rfl isPk s3 rfl) ?_; refine Hid.out ?_)
      refine Hid.mk ?_
      go_wp2_with (refine wl_value rfl (look_st rfl isPk s10 rfl) ?_; refine Hid.out ?_)
      refine Hid.mk ?_
      go_wp2_with (go_at_call 11; refine (rSame_run P P v (.slice a1 P.exts.length c1) _ HX2.out.1 HX2.out.2 HPI.out.len HPI.out.len).mono ?_; rintro e u3 ⟨rfl, hB3⟩; refine Hid.out ?_)
      refine Hid.mk ?_
      rw [samH_self]
      have HB13 : Hid (Below u1.heap.size u1 u3) := Hid.mk (HB2.out.trans (hB3.mono HB2.out.size))
      clear hB3 s3 s10 HX2 HB2
      go_wp2_with (refine wl_value rfl (exec_neE0 (m := er) rfl rfl rfl) ?_; refine Hid.out ?_)
      refine Hid.mk ?_
      go_wp2_with fail
      obtain ⟨pc, cc, rfl, hcc⟩ := HRC.out.sl.shape
      have hln : lc.length = n := by have := congrArg List.length HLC.out.1; simp at this; have := HNW.out.1; omega
      have HN := Hid.mk (And.intro hln (And.intro hcc HRC.out.few))
      rw [hln]
      rw [hln] at HRC
      go_loopg [16] n (fun gm s16 z => ∃ i : Nat, Hid (gm + i = n) ∧ s16 = .int .i64 (i : Int) ∧ Hid (Touch (fun k => ∃ x ∈ lc.take i, exK x.2 = some k) u3 z))
      case atStart => exact ⟨0, Hid.mk (by omega), rfl, Hid.mk (Touch.refl _ _)⟩
      case round =>
        obtain ⟨i, HI, rfl, HTO⟩ := hrel
        have HTB : Hid (∀ i' z, Touch (fun k => ∃ x ∈ lc.take i', exK x.2 = some k) u3 z → u1.heap.size ≤ z.heap.size ∧ (∀ k, k < zr.heap.size → z.heap[k]? = zr.heap[k]?) ∧ (∀ b, pc = some ⟨b, 0, none⟩ → b < u1.heap.size → 0 < n → z.heap[b]? = u1.heap[b]?) ∧ (∀ j x, i' ≤ j → lc[j]? = some x → NewEx zr.heap.size z x.2 x.1.exts)) := Hid.mk (fun i' z hz => by
          have hz1 := HB1.out.size
          have hz2 := HB13.out.size
          have hz3 := hz.size
          have hnew : ∀ x ∈ lc.take i', ∀ k, exK x.2 = some k → zr.heap.size ≤ k := fun x hx k hk => ((HRC.out.exs x (List.mem_of_mem_take hx)).2.2.1 k hk).1
          refine ⟨by omega, fun k hk => ?_, fun b hb hbl h0 => ?_, fun j x hj hx => ?_⟩
          · rw [hz.block k (by omega) (fun ⟨x, hx, hk2⟩ => by have := hnew x hx k hk2; omega), HB13.out.block k (by omega), HB1.out.block k hk]
          · rw [hz.block b (by omega) (fun ⟨x, hx, hk2⟩ => HRC.out.off x (List.mem_of_mem_take hx) b hk2 (by rw [hb]; rfl)), HB13.out.block b hbl]
          · have h1 := HRC.out.exs x (List.mem_of_getElem? hx)
            have h2 := h1.kept HB13.out
            have hne : ∀ k, exK x.2 = some k → z.heap[k]? = u3.heap[k]? := fun k hk => hz.block k (h2.2.2.1 k hk).2 (fun ⟨y, hy, hk2⟩ => by
              obtain ⟨j2, hj2, hy2⟩ := take_mem hy
              exact apart_at HRC.out.apart hy2 hx (by omega) k hk2 hk)
            exact ⟨h2.1.blk hne, h2.2.1, fun k hk => ⟨(h2.2.2.1 k hk).1, Nat.lt_of_lt_of_le (h2.2.2.1 k hk).2 hz3⟩, fun k hk => by rw [hne k hk]; exact h2.2.2.2 k hk⟩)
        by_cases hin : i < n
        · have HIN := Hid.mk hin
          have HII : Hid ((i : Int) < (n : Int)) := Hid.mk (by omega)
          obtain ⟨i1, hi1⟩ : ∃ q, i + 1 = q := ⟨_, rfl⟩
          have HI1 := Hid.mk hi1
          obtain ⟨⟨Pi, y⟩, hy⟩ : ∃ x, lc[i]? = some x := ⟨lc[i]'(by have := HN.out.1; omega), List.getElem?_eq_getElem _⟩
          have HYY := Hid.mk hy
          obtain ⟨gr, rfl⟩ : ∃ q, pc = some ⟨q, 0, none⟩ := by
            obtain ⟨p, c, e, hp⟩ := ownM_shape HRC.out.row
            injection e with e1 e2 e3
            obtain ⟨g, hg⟩ := hp (by have := HN.out.1; omega)
            exact ⟨g, e1.trans hg⟩
          obtain ⟨⟨gw, q0, sp⟩, hpw⟩ : ∃ q, pw = some q := by
            obtain ⟨b, q, e, _⟩ := HA1.out.2.2.2.2.some (by have := HNW.out.1; omega)
            exact ⟨_, e⟩
          have HSW := Hid.mk HA1.out.2.2.2.2
          obtain ⟨hsp, hgwl⟩ : sp = none ∧ gw < nb := by
            obtain ⟨b, q, e, hb⟩ := HF.out.2.2.2.2.some (by have := HNW.out.1; omega)
            rw [hpw] at e
            injection e with e
            injection e with e1 e2 e3
            exact ⟨e3, by have := HNB.out; omega⟩
          subst hsp
          have HPW := Hid.mk hpw
          have hgrl : gr < u1.heap.size := by
            rcases HRC.out.row.2 with ⟨e, _⟩ | ⟨g, cap, cur, e, _, hg, _⟩
            · cases e
            · cases e; exact heap_lt hg
          have htb := HTB.out i wr HTO.out
          have hrb : wr.heap[gr]? = u1.heap[gr]? := htb.2.2.1 gr rfl hgrl (by omega)
          have HLD : Hid ((Instr.loadAt 27 (.pointer (some ⟨gr, 46 * i, none⟩))).run Try.prog wr = .ok (.agg (SC 46 (pkV Pi y))) wr) := Hid.mk (by
            have h := sl_pkB HRC.out.sl hrb hy
            rw [Addr.add_lit, Nat.zero_add] at h
            exact h)
          have hny : NewEx zr.heap.size wr y Pi.exts := htb.2.2.2 i (Pi, y) (Nat.le_refl _) hy
          have hpe : Pi.exts = P.exts := HLC.out.2 (Pi, y) (List.mem_of_getElem? hy)
          have HMA := Hid.mk (mar_run Pi y wr hny.1 hny.2.2.2 (by rw [hpe]; exact HPI.out.len))
          have HGR := Hid.mk (And.intro hgrl hgwl)
          clear hin hi1 hpw htb hrb hny hpe hgrl hgwl
          go_wp2_with (refine wl_value rfl (exec_lenK rfl rfl) ?_; refine Hid.out ?_)
          refine Hid.mk ?_
          go_wp2_with (refine wl_value rfl (exec_ltT (m := (i : Int)) (n := (n : Int)) rfl rfl rfl HII.out) ?_; refine Hid.out ?_)
          refine Hid.mk ?_
          go_wp2_with (refine wl_value rfl (exec_ixK (i := i) rfl rfl rfl HIN.out) ?_; refine Hid.out ?_)
          refine Hid.mk ?_
          go_wp2_with (refine wl_value rfl (exec_ld rfl rfl HLD.out) ?_; refine Hid.out ?_)
          refine Hid.mk ?_
          go_wp2_with (go_at_call 12; refine HMA.out.mono ?_; rintro e z2 ⟨rfl, ht2⟩; refine Hid.out ?_)
          refine Hid.mk ?_
          have HT2 : Hid (Touch (fun k => ∃ x ∈ lc.take i1, exK x.2 = some k) u3 z2) := Hid.mk (by
            have h1 := HI1.out
            refine Touch.tr (HTO.out.mono (fun k _ ⟨x, hx, hk⟩ => ?_)) (ht2.mono (fun k _ hk => ⟨(Pi, y), mem_take HYY.out (by omega), hk⟩))
            obtain ⟨j, hj, hxj⟩ := take_mem hx
            exact ⟨x, mem_take hxj (by omega), hk⟩)
          clear ht2 HMA HLD
          obtain ⟨qa, ka, hsa, hqa, hka⟩ := slP_lo gr 0 n cc i1 (by have := HIN.out; have := HI1.out; omega) (by have := HN.out; omega)
          obtain ⟨qb, kb, hsb, hqb, hkb⟩ := slP_lo gw q0 n cw i1 (by have := HIN.out; have := HI1.out; omega) (by have := HNW.out; omega)
          have HSLA := Hid.mk hsa
          have HSLB := Hid.mk hsb
          have HQQ := Hid.mk (And.intro (And.intro hqa hka) (And.intro hqb hkb))
          have HSP : Hid (∀ zw : World, Below z2.heap.size z2 zw → Calls Try.prog 10 #[.slice (some ⟨gr, qa, none⟩) (n - i1) ka, .slice (some ⟨gw, qb, none⟩) (n - i1) kb] zw fun e w' => e = .returned (.bool true) ∧ Below zw.heap.size zw w') := Hid.mk (fun zw hb => by
            have ht := Touch.tr HT2.out ((touch_below hb).mono (fun _ _ (h : False) => h.elim))
            have htb := HTB.out i1 zw ht
            have hsw := HSW.out
            rw [HPW.out] at hsw
            refine samps_run _ _ (lc.drop i1) (lw.drop i1) zw (sl_drop HRC.out.sl HQQ.out.1.1 HQQ.out.1.2 (htb.2.2.1 gr rfl HGR.out.1 (by have := HIN.out; omega)) (fun x hx => ?_)) (sl_drop hsw HQQ.out.2.1 HQQ.out.2.2 ?_ (fun x hx => ?_)) (by rw [List.map_drop, List.map_drop, HLC.out.1]) (fun x hx => ?_) ?_
            · obtain ⟨j, hj, hx2⟩ := drop_mem hx
              exact (htb.2.2.2 j x hj hx2).1
            · have h1 := htb.2.1 gw (by have := HGR.out.2; have := HBZ.out.1; omega)
              rw [h1, HB1.out.block gw (by have := HGR.out.2; have := HBZ.out.1; omega)]
            · obtain ⟨_, _, _, _, _, h2⟩ := HF.out.2.2.2.2
              exact (h2 x (List.mem_of_mem_drop hx)).keep (fun k hk => by
                have h3 := HNB.out
                rw [htb.2.1 k (by have := HBZ.out.1; omega)]
                exact HKZ.out k (by omega))
            · rw [HLC.out.2 x (List.mem_of_mem_drop hx)]; exact HPI.out.len
            · rw [List.length_drop]; have := HN.out; omega)
          clear hsa hqa hka hsb hqb hkb
          have hpw := HPW.out
          subst hpw
          go_upto_region 18 with fail
          refine wp_region3 (Below z2.heap.size z2) z2.heap.size
              ([] : List (Nat × Cont))
              [kv (.slice (some ⟨gr, 0, none⟩) n cc), kv (.int .i64 (i : Int)), kv (.int .i64 (i1 : Int)), kv (.slice (some ⟨gr, qa, none⟩) (n - i1) ka), kv (.slice (some ⟨gw, q0, none⟩) n cw), kv (.int .i64 (i : Int)), kv (.int .i64 (i1 : Int)), kv (.slice (some ⟨gw, qb, none⟩) (n - i1) kb), kv (.bool true), kv (.bool true)]
              [.none, .none, .none, .none, .none, .none, .none, .none, .none, .none]
              [some 73, some 74, some 75, some 76, some 77, some 78, some 79, some 80, some 81, some 17]
              [(12, .slice (some ⟨gr, 0, none⟩) n cc), (16, .int .i64 (i : Int)), (8, .slice (some ⟨gw, q0, none⟩) n cw)]
              [[], [], [.slot 1], [.slot 0, .slot 2], [], [], [.slot 5], [.slot 4, .slot 6], [.slot 3, .slot 7], [.slot 8]]
              [.slot 9] [73, 74, 75, 76, 77, 78, 79, 80, 81, 17]
              rfl (by kernel_rfl) ⟨rfl, rfl, rfl, trivial⟩ ((Below.refl _ z2).drew) (Nat.le_refl _) trivial trivial (below_GcW (Nat.le_refl _))
              ⟨
              (fun QQ aa ww own hS hBg fr kn => .inl ⟨trivial, fun K hK => wp_value (exec_move rfl fr.1) (hK _ _ ⟨Touch.refl _ _, rfl⟩)⟩),
              (fun QQ aa ww own hS hBg fr kn => .inl ⟨trivial, fun K hK => wp_value (exec_move rfl fr.2.1) (hK _ _ ⟨Touch.refl _ _, rfl⟩)⟩),
              (fun QQ aa ww own hS hBg fr kn => .inl ⟨trivial, fun K hK => wp_value (exec_addW (i := i) (m := 1) (q := i1) rfl kn.1 rfl HI1.out (by have := HI1.out; have := HIN.out; have := HN.out; omega)) (hK _ _ ⟨Touch.refl _ _, rfl⟩)⟩),
              (fun QQ aa ww own hS hBg fr kn => .inl ⟨trivial, fun K hK => wp_value (exec_slL rfl kn.1 kn.2.1 (HSLA.out _)) (hK _ _ ⟨Touch.refl _ _, rfl⟩)⟩),
              (fun QQ aa ww own hS hBg fr kn => .inl ⟨trivial, fun K hK => wp_value (exec_move rfl fr.2.2.1) (hK _ _ ⟨Touch.refl _ _, rfl⟩)⟩),
              (fun QQ aa ww own hS hBg fr kn => .inl ⟨trivial, fun K hK => wp_value (exec_move rfl fr.2.1) (hK _ _ ⟨Touch.refl _ _, rfl⟩)⟩),
              (fun QQ aa ww own hS hBg fr kn => .inl ⟨trivial, fun K hK => wp_value (exec_addW (i := i) (m := 1) (q := i1) rfl kn.1 rfl HI1.out (by have := HI1.out; have := HIN.out; have := HN.out; omega)) (hK _ _ ⟨Touch.refl _ _, rfl⟩)⟩),
              (fun QQ aa ww own hS hBg fr kn => .inl ⟨trivial, fun K hK => wp_value (exec_slL rfl kn.1 kn.2.1 (HSLB.out _)) (hK _ _ ⟨Touch.refl _ _, rfl⟩)⟩),
              (fun QQ aa ww own hS hBg fr kn => .inl ⟨trivial, fun K hK => stepc en_samp rfl (args2 kn.1 kn.2.1) (HSP.out ww hS) (fun w' hb => hK _ _ ⟨touch_below hb, rfl⟩)⟩),
              (fun QQ aa ww own hS hBg fr kn => .inl ⟨trivial, fun K hK => wp_value (exec_assign rfl kn.1) (hK _ _ ⟨Touch.refl _ _, rfl⟩)⟩),
              trivial⟩ ?_
          intro vs own z3 hB3 hsz kn inj
          have e17 : vs 17 = .bool true := kn.1
          clear kn inj hsz
          simp only [putAll, Act.put, List.setIfInBounds_toArray, List.set_cons_zero, List.set_cons_succ, e17]
          clear e17
          have HT3 : Hid (Touch (fun k => ∃ x ∈ lc.take i1, exK x.2 = some k) u3 z3) := Hid.mk (Touch.tr HT2.out ((touch_below hB3).mono (fun _ _ (h : False) => h.elim)))
          clear hB3 HT2 HSP
          go_wp2_with (refine wl_value rfl (exec_addW (i := i) (m := 1) (q := i1) rfl rfl rfl HI1.out (by have := HI1.out; have := HIN.out; have := HN.out; omega)) ?_; refine Hid.out ?_)
          refine Hid.mk ?_
          go_wp2_with fail
          go_roundg (n - i1)
          case rel => exact ⟨i1, Hid.mk (by have := HI1.out; have := HIN.out; omega), rfl, HT3⟩
          case measure => have := HI.out; have := HI1.out; have := HIN.out; omega
        · have HII : Hid ((n : Int) ≤ (i : Int)) := Hid.mk (by omega)
          have htb := HTB.out i wr HTO.out
          have HEND : Hid (nb ≤ wr.heap.size ∧ Below nb w8 wr) := Hid.mk (by
            have h1 := HBZ.out
            have h2 := HB1.out
            have h3 := HB13.out
            have h4 := HTO.out
            refine ⟨by have := h2.size; omega, ⟨h4.os.trans (h3.os.trans (h2.os.trans h1.2.os)), h4.tape.trans (h3.tape.trans (h2.tape.trans h1.2.tape)), h4.output.trans (h3.output.trans (h2.output.trans h1.2.output)), by have := HNB.out; have := h2.size; omega, fun k hk => (htb.2.1 k (by omega)).trans (h1.2.block k hk)⟩⟩)
          clear hin htb
          go_wp2_with (refine wl_value rfl (exec_lenK rfl rfl) ?_; refine Hid.out ?_)
          refine Hid.mk ?_
          go_wp2_with (refine wl_value rfl (exec_ltF (m := (i : Int)) (n := (n : Int)) rfl rfl rfl (Int.not_lt.2 HII.out)) ?_; refine Hid.out ?_)
          refine Hid.mk ?_
          go_wp2_with (refine wl_value rfl (exec_addW (i := t) (m := 1) (q := t1) rfl rfl rfl HT1.out.1 (by have := HT1.out; omega)) ?_; refine Hid.out ?_)
          refine Hid.mk ?_
          go_wp2_with fail
          go_roundg (2 - t1)
          case rel => exact ⟨t1, Hid.mk (by have := HT1.out; omega), rfl, HEND⟩
          case measure => have := HT.out; have := HT1.out; omega
    · have HTI : Hid ((2 : Int) ≤ (t : Int)) := Hid.mk (by omega)
      clear ht
      go_wp2_with (refine wl_value rfl (exec_ltF (m := (t : Int)) (n := 2) rfl rfl rfl (Int.not_lt.2 HTI.out)) ?_; refine Hid.out ?_)
      refine Hid.mk ?_
      go_wp2_with fail
      go_ret
      exact ⟨rfl, HB8.out.trans (HBZ.out.2.mono HZ8.out)⟩
end Go.Proofs.Ythnlfjkpiohooaa
