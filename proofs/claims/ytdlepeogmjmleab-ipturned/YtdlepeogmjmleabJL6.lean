/-
  Own text. IpTurned: a header of version 4 of which one byte was changed is refused.
-/
import Derived.Test.YtdlepeogmjmleabJL7
namespace Go.Proofs.Ytdlepeogmjmleab
open Go.RowKit Go.Proofs
set_option maxRecDepth 100000
theorem txt_out13 {s : ByteArray} {j : Nat} (h : s.size ≤ j) : txt s j = 0 := by
  unfold txt
  rw [List.getD_eq_getElem?_getD, List.getElem?_eq_none (by simpa using h)]
  rfl
/-- One byte of a text is put in another one's place. -/
def splice (B : ByteArray) (k : Nat) (q : Int) : ByteArray := B.extract 0 k ++ mkS 1 (fun _ => q) ++ B.extract (k + 1) B.size
theorem splice_says (B : ByteArray) {k : Nat} {q : Int} (hk : k < B.size) (hq : 0 ≤ q ∧ q < 256) : (splice B k q).size = B.size ∧ txt (splice B k q) k = q ∧ ∀ j, j ≠ k → txt (splice B k q) j = txt B j := by
  have z1 : (B.extract 0 k).size = k := by rw [cutP_size _ _ _ (by omega)]; omega
  have z2 : (mkS 1 (fun _ => q)).size = 1 := mkS_size _ _
  have z3 : (B.extract (k + 1) B.size).size = B.size - (k + 1) := cutP_size _ _ _ (Nat.le_refl _)
  have z4 : (B.extract 0 k ++ mkS 1 (fun _ => q)).size = k + 1 := by rw [ByteArray.size_append, z1, z2]
  have hz : (splice B k q).size = B.size := by unfold splice; rw [ByteArray.size_append, z4, z3]; omega
  refine ⟨hz, ?_, fun j hj => ?_⟩
  · unfold splice
    rw [txt_left _ _ (by omega)]
    have := txt_right (B.extract 0 k) (mkS 1 (fun _ => q)) (n := k) (j := 0) z1
    rw [Nat.add_zero] at this
    rw [this]
    exact txt_mkS (f := fun _ => q) hq (by decide)
  · rcases Nat.lt_or_ge j k with h | h
    · unfold splice
      rw [txt_left _ _ (by omega), txt_left _ _ (by omega), txt_cutP _ _ _ _ (by omega) (by omega), Nat.zero_add]
    · rcases Nat.lt_or_ge j B.size with h2 | h2
      · obtain ⟨i, rfl⟩ : ∃ i, j = k + 1 + i := ⟨j - (k + 1), by omega⟩
        unfold splice
        rw [txt_right _ _ z4, txt_cutP _ _ _ _ (by omega) (Nat.le_refl _)]
      · rw [txt_out13 (by omega), txt_out13 h2]
theorem xor_ne {x y : Int} (hx : 0 ≤ x ∧ x < 256) (hy : 0 ≤ y ∧ y < 256) (h0 : y ≠ 0) : xorw x y ≠ x := by
  intro e
  have h := xorw_back8 hx hy
  unfold xorw at e h
  have e1 : x.toNat ^^^ y.toNat = x.toNat := by omega
  have e2 : (x.toNat ^^^ y.toNat) ^^^ x.toNat = 0 := by rw [e1, Nat.xor_self]
  rw [Nat.xor_comm x.toNat, Nat.xor_assoc, Nat.xor_self, Nat.xor_zero] at e2
  omega
section
variable {a : Act} {o : Oper} {w : World} {x y : Operand}
theorem exec_xor8V {m n q : Int} (h : xorw m n = q) (ho : o.op = .binOp .xor 5 x y 5) (hx : a.eval x = .int .u8 m) (hy : a.eval y = .int .u8 n) (hm : 0 ≤ m ∧ m < 256) (hn : 0 ≤ n ∧ n < 256) : (execOp a.eval o).run Try.prog w = .ok (.value (.int .u8 q)) w := by
  subst h
  exact exec_xor8 ho hx hy hm hn
theorem exec_catV {s t r : ByteArray} (h : s ++ t = r) (ho : o.op = .binOp .add 9 x y 9) (hx : a.eval x = .string s) (hy : a.eval y = .string t) (hl : s.size + t.size ≤ 9223372036854775807) : (execOp a.eval o).run Try.prog w = .ok (.value (.string r)) w := by
  subst h
  exact exec_catS ho hx hy hl
theorem exec_cv8V {m q : Int} (h : m % 256 = q) (ho : o.op = .convert 3 5 x) (hx : a.eval x = .int .i64 m) : (execOp a.eval o).run Try.prog w = .ok (.value (.int .u8 q)) w := by
  subst h
  refine exec_conv ho hx ?_
  simp [go_sem, IntKind.wrap_u8]
end
theorem run_b1T (n : Int) (w : World) : (Instr.buildSlice 32 1 #[(0, .int .u8 n)]).run Try.prog w = .ok (.slice (some ⟨w.heap.size, 0, none⟩) 1 1) (w.alloc (.cells #[.int .u8 n] 5)) := by simp [go_sem]
theorem act_b1T {o : Oper} {a : Act} {w : World} {K : Act → World → Prop} {Q : Exit → Act → World → Prop} {x : Operand} (ho : o.op = .buildSlice 32 1 #[(0, x)]) {n : Int} (hx : a.eval x = .int .u8 n)
    (h : ∀ w', Below w.heap.size w w' → w.heap.size ≤ w.heap.size → ContOK (isOb #[.int .u8 n] 5) w' w.heap.size → K (a.put o.dst (.slice (some ⟨w.heap.size, 0, none⟩) 1 1)) w') : o.wp Try.prog a w K Q := by
  have hr := run_b1T n w
  unfold Oper.wp execOp
  simp only [ho, List.map_toArray, List.map_cons, List.map_nil, hx, Sem.run_bind, hr, Result.andThen_ok, Sem.run_pure, Oper.upon]
  exact h _ ((Below.refl _ w).alloc (Nat.le_refl _) _) (Nat.le_refl _) (obIn (heap_alloc_new w _))
theorem str_one {q : Int} (hq : 0 ≤ q ∧ q < 256) (w : World) (g : Nat) (hc : ContOK (isOb #[.int .u8 q] 5) w g) : (convert 32 9 (.slice (some ⟨g, 0, none⟩) 1 1)).run Try.prog w = .ok (.string (mkS 1 (fun _ => q))) w := by
  have hg := obAt hc
  have h := run_convert_bytes_back (P := Try.prog) w 32 9 5 ⟨g, 0, none⟩ 1 (bytesL 1 (fun _ => q)) Try.underlying32 Try.underlying5 Try.underlying9 (fun j hj => by
    rw [bytesL_len] at hj
    obtain rfl : j = 0 := by omega
    rw [Addr.add_lit, Nat.zero_add, cell_of_row w g 0 _ _ (0, 0) hg]
    simp [bytesL]
    omega)
  rw [bytesL_len] at h
  exact h
set_option maxHeartbeats 8000000 in
theorem turned_walk (P : Pk) (v : Value) (k by0 : Int) (w : World) (h1 : ExAt w v P.exts) (hA : PkArg P) (hk0 : -9223372036854775808 ≤ k) (hk1 : k < 9223372036854775808) : Calls Try.prog 3 #[.agg (SC 46 (pkV P v)), .int .i64 k, .int .i64 by0] w fun e w' => e = .returned (.bool true) ∧ Below w.heap.size w w' := by
  have HB1' : Hid (∀ ww, ExAt ww v P.exts → Calls Try.prog 7 #[.agg (SC 46 (pkV P v))] ww fun e w' => e = .returned (.tuple #[.string (bldT P), .int .i64 (bldE P)]) ∧ Below ww.heap.size ww w') := Hid.mk (fun ww h => Build_run P v ww h hA.ok hA.len hA.b hA.p)
  have hvo := h1.one
  have HWP := Hid.mk (bld_ways P)
  have HFS := Hid.mk (fun a b => fit_size (P := P) a b)
  have HTU : Hid (rgtP P = true → fitP P = true → P.sv = false → 20 + P.opts.size ≤ (bldT P).size ∧ P.opts.size ≤ 40 ∧ ∀ (c : ByteArray) (kk : Nat), c.size = (bldT P).size → 0 < kk → kk < 20 + P.opts.size → txt c kk ≠ txt (bldT P) kk → (∀ j, j ≠ kk → txt c j = txt (bldT P) j) → rdP c = .err 72 ∨ rdP c = .err 73) := Hid.mk (fun a b c => by
    refine ⟨?_, ?_, fun cc kk e1 e2 e3 e4 e5 => rd_turned a b c e1 e2 e3 e4 e5⟩
    · rw [bld_size a b]
      unfold sizeP
      rw [if_pos a]
      unfold headP
      rw [if_neg (by rw [c]; decide)]
      omega
    · obtain ⟨_, _, _, _, _, _, _, _, hr⟩ := rgtP_iff.1 a
      rw [if_neg (by rw [c]; decide)] at hr
      exact (rgt4_iff.1 hr).2.2.1)
  clear hA
  generalize bldT P = BT at *
  generalize bldE P = E1 at *
  go_enter Try.func3, Try.ntmps3
  go_wp2_with (refine wl_boxO rfl rfl isPk (by rfl) ?_; intro g1 u1 hg1 p1 hB1; refine Hid.out ?_)
  refine Hid.mk ?_
  go_wp2_with (go_at_call 6; refine (awake_run _).mono ?_; rintro e u2 ⟨rfl, hB2⟩; refine Hid.out ?_)
  refine Hid.mk ?_
  have p2 := p1.kept hB2
  have hBa := hB1.trans (hB2.mono hB1.size)
  have HX := Hid.mk (h1.kept hBa)
  clear p1 hB1 hB2 h1
  go_wp2_with (first | (refine wl_value rfl (look_st rfl isPk p2 (by rfl)) ?_) | (go_at_call 7; refine (HB1'.out _ HX.out).mono ?_; rintro e u3 ⟨rfl, hB3⟩; refine Hid.out ?_))
  refine Hid.mk ?_
  have p3 := p2.kept hB3
  have hBb := hBa.trans (hB3.mono hBa.size)
  have c0 := pk_sv p3
  have c9 := pk_opts p3
  clear p2 hBa hB3 HX HB1'
  rcases HWP.out with ⟨rfl, hR, hF⟩ | ⟨n1, rfl⟩
  case inr =>
    have hb1 : (E1 == 0) = false := beq_false_of_ne n1
    have hn1 : (E1 != 0) = true := bne_iff_ne.2 n1
    clear HWP HTU HFS
    go_wp2_with (refine wl_value rfl (exec_eqT (s := ByteArray.empty) (t := ByteArray.empty) rfl rfl (by rfl) (by rfl)) ?_)
    go_ret
    exact ⟨rfl, hBb⟩
  have hfs := HFS.out hR hF
  rcases Bool.eq_false_or_eq_true P.sv with hsv | hsv
  · rw [hsv] at c0
    clear HWP HTU HFS hR hF
    go_wp2_with (first | (refine wl_value rfl (exec_fpkL 0 0 (by decide) rfl rfl (by rfl)) ?_) | (refine wl_value rfl (exec_fad0 rfl (by rfl)) ?_) | (refine wl_value rfl (exec_ld rfl (by rfl) (ldPb c0)) ?_))
    go_ret
    exact ⟨rfl, hBb⟩
  rw [hsv] at c0
  obtain ⟨hOz, hO4, htu⟩ := HTU.out hR hF hsv
  have HT := Hid.mk htu
  obtain ⟨n, hn⟩ : ∃ n, BT.size = n := ⟨_, rfl⟩
  obtain ⟨O, hO⟩ : ∃ O, P.opts.size = O := ⟨_, rfl⟩
  have HN := Hid.mk hn
  have HO := Hid.mk hO
  rw [hn] at hfs hOz
  rw [hO] at hOz hO4
  clear HWP HTU HFS hR hF hn hO htu
  obtain ⟨K0, hK0⟩ : ∃ K0 : Nat, (K0 : Int) = if k < 0 then -(k + 1) else k := ⟨(if k < 0 then -(k + 1) else k).toNat, by split <;> omega⟩
  have HK0 := Hid.mk hK0
  have hK0l : K0 < 9223372036854775808 := by split at hK0 <;> omega
  clear hK0
  go_upto_if 39 with (first | (refine wl_value rfl (exec_fpkL 0 0 (by decide) rfl rfl (by rfl)) ?_) | (refine wl_value rfl (exec_fad0 rfl (by rfl)) ?_) | (refine wl_value rfl (exec_ld rfl (by rfl) (ldPb c0)) ?_))
  try simp only [Act.put, List.setIfInBounds_toArray, List.set_cons_zero, List.set_cons_succ]
  go_cut [10, 39, 40, 41, 42] from 39 to 42 (fun s10 s39 s40 s41 s42 z => s10 = .int .i64 ((K0 : Nat) : Int) ∧ z = u3)
  case first =>
    by_cases hk : k < 0
    · have e1 : (K0 : Int) = -(k + 1) := by rw [HK0.out, if_pos hk]
      obtain ⟨K1, hK1⟩ : ∃ K1, k + 1 = K1 := ⟨_, rfl⟩
      rw [hK1] at e1
      have HE1 := Hid.mk e1
      have HK1 := Hid.mk hK1
      have hb0 : -9223372036854775808 ≤ K1 := by omega
      have hb1 : K1 < 9223372036854775808 := by omega
      clear e1 hK1
      go_wp2_with (first | (refine wl_value rfl (exec_addZ (m := k) (n := 1) (q := K1) rfl (by rfl) (by rfl) HK1.out hb0 hb1) ?_) | (refine wl_value rfl (exec_negI (m := K1) rfl (by rfl) HE1.out hK0l) ?_))
      go_meet
      case rel => exact ⟨rfl, rfl⟩
    · have e1 : (K0 : Int) = k := by rw [HK0.out, if_neg hk]
      go_wp2_with fail
      go_meet
      case rel => exact ⟨by rw [e1], rfl⟩
  case rest =>
    obtain ⟨rfl, rfl⟩ := hcut
    generalize wc = u4 at *
    obtain ⟨OM, hOM⟩ : ∃ OM, 19 + O = OM := ⟨_, rfl⟩
    obtain ⟨KR, hKR⟩ : ∃ KR, K0 % OM = KR := ⟨_, rfl⟩
    obtain ⟨KK, hKK⟩ : ∃ KK, 1 + KR = KK := ⟨_, rfl⟩
    obtain ⟨K1, hK1⟩ : ∃ K1, KK + 1 = K1 := ⟨_, rfl⟩
    have hKRl : KR < OM := by rw [← hKR]; exact Nat.mod_lt _ (by omega)
    have HOM := Hid.mk hOM
    have HKR := Hid.mk hKR
    have HKK := Hid.mk hKK
    have HK1 := Hid.mk hK1
    have hKn : KK < n := by omega
    have hKO : KK < 20 + O := by omega
    have hKp : 0 < KK := by omega
    have hK1n : K1 ≤ n := by omega
    have hOMl : OM < 100 := by omega
    have hKni : ¬ (n : Int) ≤ (KK : Int) := by omega
    obtain ⟨Y0, hY0⟩ : ∃ Y0 : Int, by0 % 256 = Y0 := ⟨_, rfl⟩
    have hY0b : 0 ≤ Y0 ∧ Y0 < 256 := by omega
    obtain ⟨Y, hY⟩ : ∃ Y : Int, Y = if Y0 = 0 then 1 else Y0 := ⟨_, rfl⟩
    have hYb : 0 ≤ Y ∧ Y < 256 := by rw [hY]; split <;> omega
    have hY1 : Y ≠ 0 := by rw [hY]; split <;> omega
    have HY0 := Hid.mk hY0
    have HY := Hid.mk hY
    obtain ⟨BK, hBK⟩ : ∃ BK, txt BT KK = BK := ⟨_, rfl⟩
    obtain ⟨XK, hXK⟩ : ∃ XK, xorw BK Y = XK := ⟨_, rfl⟩
    have hBKb : 0 ≤ BK ∧ BK < 256 := by rw [← hBK]; exact txt_b BT KK
    have hXKb : 0 ≤ XK ∧ XK < 256 := by rw [← hXK]; exact xorw_b hBKb hYb
    have hXne : XK ≠ BK := by rw [← hXK]; exact xor_ne hBKb hYb hY1
    obtain ⟨s1, s2, s3⟩ := splice_says BT (k := KK) (q := XK) (by rw [HN.out]; exact hKn) hXKb
    obtain ⟨X, hX, hXX⟩ : ∃ X, rdP (splice BT KK XK) = .err X ∧ (X = 72 ∨ X = 73) := by
      rcases HT.out (splice BT KK XK) KK s1 hKp (by rw [HO.out]; exact hKO) (by rw [s2, hBK]; exact hXne) s3 with e | e
      · exact ⟨72, e, .inl rfl⟩
      · exact ⟨73, e, .inr rfl⟩
    have HPA := Hid.mk (fun ww => Parse_err hX ww (by rw [s1, HN.out]; omega))
    have HLT : Hid (KK < BT.size) := Hid.mk (by rw [HN.out]; exact hKn)
    have HBK := Hid.mk hBK
    have HXO := Hid.mk hXK
    have HB1 := Hid.mk hBKb
    have HB2 := Hid.mk hYb
    have HCV := Hid.mk (fun ww g hc => str_one hXKb ww g hc)
    have HS1 : Hid (∀ ww, (Instr.sliceAt 9 (.string BT) none (some (.int .i64 ((KK : Nat) : Int))) none).run Try.prog ww = .ok (.string (BT.extract 0 KK)) ww) := Hid.mk (fun ww => strH BT KK ww (by rw [HN.out]; omega))
    have HS2 : Hid (∀ ww, (Instr.sliceAt 9 (.string BT) (some (.int .i64 ((K1 : Nat) : Int))) none none).run Try.prog ww = .ok (.string (BT.extract K1 BT.size)) ww) := Hid.mk (fun ww => strL BT K1 ww (by rw [HN.out]; exact hK1n))
    have z1 : (BT.extract 0 KK).size = KK := by rw [cutP_size _ _ _ (by rw [HN.out]; omega)]; omega
    have z2 : (mkS 1 (fun _ => XK)).size = 1 := mkS_size _ _
    have z3 : (BT.extract K1 BT.size).size = n - K1 := by rw [cutP_size _ _ _ (Nat.le_refl _), HN.out]
    have HC1z : Hid ((BT.extract 0 KK).size + (mkS 1 (fun _ => XK)).size ≤ 9223372036854775807) := Hid.mk (by rw [z1, z2]; omega)
    have HC2z : Hid ((BT.extract 0 KK ++ mkS 1 (fun _ => XK)).size + (BT.extract K1 BT.size).size ≤ 9223372036854775807) := Hid.mk (by rw [ByteArray.size_append, z1, z2, z3]; omega)
    have HC2e : Hid (BT.extract 0 KK ++ mkS 1 (fun _ => XK) ++ BT.extract K1 BT.size = splice BT KK XK) := Hid.mk (by rw [← hK1]; rfl)
    clear s1 s2 s3 hX z1 z2 z3 hXne hXKb hBKb hYb hY1 hXK hBK hY hY0 hK1 hKK hKR hOM HT
    generalize splice BT KK XK = XC at *
    generalize BT.extract 0 KK = XL at *
    generalize BT.extract K1 BT.size = XR at *
    generalize mkS 1 (fun _ => XK) = XM at *
    obtain ⟨XLM, hXLM⟩ : ∃ XLM, XL ++ XM = XLM := ⟨_, rfl⟩
    rw [hXLM] at HC2z HC2e
    have HC1 := Hid.mk hXLM
    have HC2 := HC2e
    clear hXLM
    go_upto_if 57 with (first | (refine wl_value rfl (exec_fpkL 9 41 (by decide) rfl rfl (by rfl)) ?_) | (refine wl_value rfl (exec_ld rfl (by rfl) (ldPs c9)) ?_) | (refine wl_value rfl (exec_lenSV HO.out rfl (by rfl)) ?_) | (refine wl_value rfl (exec_lenSV HN.out rfl (by rfl)) ?_) | (refine wl_value rfl (exec_addW (i := 19) (m := O) (q := OM) rfl (by rfl) (by rfl) HOM.out (by omega)) ?_) | (refine wl_value rfl (exec_remW (i := K0) (m := OM) (q := KR) rfl (by rfl) (by rfl) HKR.out (by omega)) ?_) | (refine wl_value rfl (exec_addW (i := 1) (m := KR) (q := KK) rfl (by rfl) (by rfl) HKK.out (by omega)) ?_) | (refine wl_value rfl (exec_cv8V (m := by0) HY0.out rfl (by rfl)) ?_))
    try simp only [Act.put, List.setIfInBounds_toArray, List.set_cons_zero, List.set_cons_succ]
    go_cut [11, 57] from 57 to 57 (fun s11 s57 z => s11 = .int .u8 Y ∧ z = u4)
    case first =>
      by_cases hy : Y0 = 0
      · have e1 : Y = 1 := by rw [HY.out, if_pos hy]
        have hyb : (Y0 == 0) = true := beq_iff_eq.2 hy
        clear hy
        have HE := Hid.mk e1
        clear e1
        go_wp2_with fail
        go_meet
        case rel => exact ⟨by rw [HE.out], rfl⟩
      · have e1 : Y = Y0 := by rw [HY.out, if_neg hy]
        have hyb : (Y0 == 0) = false := beq_false_of_ne hy
        clear hy
        have HE := Hid.mk e1
        clear e1
        go_wp2_with fail
        go_meet
        case rel => exact ⟨by rw [HE.out], rfl⟩
    case rest =>
      obtain ⟨rfl, hw⟩ := hcut
      rw [hw]
      clear hw
      go_upto_region 14 with fail
      refine wp_region3 (Below u4.heap.size u4) u4.heap.size
          ([] : List (Nat × Cont))
          [kv (.string BT), kv (.int .i64 ((KK : Nat) : Int)), kv (.string XL), kv (.string BT), kv (.int .i64 ((KK : Nat) : Int)), kv (.int .u8 BK), kv (.int .u8 Y), kv (.int .u8 XK), ks 1 #[.int .u8 XK] 5, kv (.string XM), kv (.string XLM), kv (.string BT), kv (.int .i64 ((KK : Nat) : Int)), kv (.int .i64 ((K1 : Nat) : Int)), kv (.string XR), kv (.string XC), kv (.string XC)]
          [.none, .none, .none, .none, .none, .none, .none, .none, .none, .none, .none, .none, .none, .none, .none, .none, .none]
          [some 58, some 59, some 60, some 61, some 62, some 63, some 64, some 65, some 66, some 67, some 68, some 69, some 70, some 71, some 72, some 73, some 12]
          [(8, .string BT), (10, .int .i64 ((KK : Nat) : Int)), (11, .int .u8 Y)]
          [[], [], [.slot 0, .slot 1], [], [], [.slot 3, .slot 4], [], [.slot 5, .slot 6], [.slot 7], [.slot 8, .cont 8 0], [.slot 2, .slot 9], [], [], [.slot 12], [.slot 11, .slot 13], [.slot 10, .slot 14], [.slot 15]]
          [.slot 16] [58, 59, 60, 61, 62, 63, 64, 65, 66, 67, 68, 69, 70, 71, 72, 73, 12]
          rfl (by kernel_rfl) ⟨rfl, rfl, rfl, trivial⟩ ((Below.refl _ u4).drew) (Nat.le_refl _) trivial trivial (below_GcW (Nat.le_refl _))
          ⟨
          (fun QQ aa ww own hS hBg fr kn => .inl ⟨trivial, fun K hK => wp_value (exec_move rfl fr.1) (hK _ _ ⟨Touch.refl _ _, rfl⟩)⟩),
          (fun QQ aa ww own hS hBg fr kn => .inl ⟨trivial, fun K hK => wp_value (exec_move rfl fr.2.1) (hK _ _ ⟨Touch.refl _ _, rfl⟩)⟩),
          (fun QQ aa ww own hS hBg fr kn => .inl ⟨trivial, fun K hK => wp_value (exec_slH (u := .int .i64 ((KK : Nat) : Int)) rfl kn.1 kn.2.1 (HS1.out ww)) (hK _ _ ⟨Touch.refl _ _, rfl⟩)⟩),
          (fun QQ aa ww own hS hBg fr kn => .inl ⟨trivial, fun K hK => wp_value (exec_move rfl fr.1) (hK _ _ ⟨Touch.refl _ _, rfl⟩)⟩),
          (fun QQ aa ww own hS hBg fr kn => .inl ⟨trivial, fun K hK => wp_value (exec_move rfl fr.2.1) (hK _ _ ⟨Touch.refl _ _, rfl⟩)⟩),
          (fun QQ aa ww own hS hBg fr kn => .inl ⟨trivial, fun K hK => wp_value (exec_ixv (j := KK) rfl kn.1 kn.2.1 HLT.out HBK.out) (hK _ _ ⟨Touch.refl _ _, rfl⟩)⟩),
          (fun QQ aa ww own hS hBg fr kn => .inl ⟨trivial, fun K hK => wp_value (exec_move rfl fr.2.2.1) (hK _ _ ⟨Touch.refl _ _, rfl⟩)⟩),
          (fun QQ aa ww own hS hBg fr kn => .inl ⟨trivial, fun K hK => wp_value (exec_xor8V HXO.out rfl kn.1 kn.2.1 HB1.out HB2.out) (hK _ _ ⟨Touch.refl _ _, rfl⟩)⟩),
          (fun QQ aa ww own hS hBg fr kn => .inl ⟨trivial, fun K hK => act_b1T rfl kn.1 (fun w' hb hz hc => hK _ _ ⟨touch_below hb, _, hz, rfl, hc⟩)⟩),
          (fun QQ aa ww own hS hBg fr kn => .inl ⟨trivial, fun K hK => wp_value (exec_conv rfl kn.1.1 (HCV.out ww (own 8) kn.2.1)) (hK _ _ ⟨Touch.refl _ _, rfl⟩)⟩),
          (fun QQ aa ww own hS hBg fr kn => .inl ⟨trivial, fun K hK => wp_value (exec_catV HC1.out rfl kn.1 kn.2.1 HC1z.out) (hK _ _ ⟨Touch.refl _ _, rfl⟩)⟩),
          (fun QQ aa ww own hS hBg fr kn => .inl ⟨trivial, fun K hK => wp_value (exec_move rfl fr.1) (hK _ _ ⟨Touch.refl _ _, rfl⟩)⟩),
          (fun QQ aa ww own hS hBg fr kn => .inl ⟨trivial, fun K hK => wp_value (exec_move rfl fr.2.1) (hK _ _ ⟨Touch.refl _ _, rfl⟩)⟩),
          (fun QQ aa ww own hS hBg fr kn => .inl ⟨trivial, fun K hK => wp_value (exec_addW (i := KK) (m := 1) (q := K1) rfl kn.1 rfl HK1.out (by omega)) (hK _ _ ⟨Touch.refl _ _, rfl⟩)⟩),
          (fun QQ aa ww own hS hBg fr kn => .inl ⟨trivial, fun K hK => wp_value (exec_slL (u := .int .i64 ((K1 : Nat) : Int)) rfl kn.1 kn.2.1 (HS2.out ww)) (hK _ _ ⟨Touch.refl _ _, rfl⟩)⟩),
          (fun QQ aa ww own hS hBg fr kn => .inl ⟨trivial, fun K hK => wp_value (exec_catV HC2.out rfl kn.1 kn.2.1 HC2z.out) (hK _ _ ⟨Touch.refl _ _, rfl⟩)⟩),
          (fun QQ aa ww own hS hBg fr kn => .inl ⟨trivial, fun K hK => wp_value (exec_assign rfl kn.1) (hK _ _ ⟨Touch.refl _ _, rfl⟩)⟩),
          trivial⟩ ?_
      intro vs own u6 hB6 hsz kn inj
      have e12 : vs 12 = .string XC := kn.1
      clear kn inj hsz
      simp only [putAll, Act.put, List.setIfInBounds_toArray, List.set_cons_zero, List.set_cons_succ, e12]
      clear e12
      have hBc := hBb.trans (hB6.mono hBb.size)
      clear hB6 hBb
      go_wp2_with (go_at_call 8; refine (HPA.out _).mono ?_; rintro e u7 ⟨rfl, hB7⟩; refine Hid.out ?_)
      refine Hid.mk ?_
      have hBd := hBc.trans (hB7.mono hBc.size)
      clear hB7 hBc
      go_wp2_with (refine wl_alO rfl rfl zeroPk ?_; intro g9 u8 hg9 q8 hB8; refine Hid.out ?_)
      refine Hid.mk ?_
      have hg9w : w.heap.size ≤ g9 := by have := hBd.size; omega
      have hBe := hBd.trans (hB8.mono hBd.size)
      go_wp2_with (refine st_stO rfl rfl isPk (fun i => pkV_one rfl i) q8 (by rfl) (by rfl) ?_; intro u9 q9 o9; refine Hid.out ?_)
      refine Hid.mk ?_
      have hBf := hBe.trans (o9.below hg9w)
      clear HPA HLT HBK HXO HB1 HB2 HCV HS1 HS2 HC1z HC2z HC2e HC1 HC2 HN HO HY HY0 HK1 HKK HKR HOM
      rcases hXX with rfl | rfl
      · go_wp2_with fail
        go_ret
        exact ⟨rfl, hBf⟩
      · go_wp2_with fail
        go_ret
        exact ⟨rfl, hBf⟩
end Go.Proofs.Ytdlepeogmjmleab
