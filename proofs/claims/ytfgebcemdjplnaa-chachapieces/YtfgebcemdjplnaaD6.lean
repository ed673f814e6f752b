/-
  Own text. The walk of the law ChachaPieces.
-/
import Derived.Test.YtfgebcemdjplnaaD5
namespace Go.Proofs.Ytfgebcemdjplnaa
open Go.RowKit Go.Proofs
theorem enterStream (args : Array Value) (w : World) : (callFunc 15 args).run Try.prog w = .ok (.enter 15 args) w := by kernel_rfl
set_option maxHeartbeats 8000000 in
set_option maxRecDepth 100000 in
theorem pieces_walk (key : Nat → Int) (c : Int) (s : ByteArray) (cut : Int) (w : World) (hk : Byts 32 key) (hc : W32 c) (hs : s.size ≤ 140737488351232) (hu0 : -9223372036854775808 ≤ cut) (hu1 : cut ≤ 9223372036854775807) :
    Calls Try.prog 6 #[.agg (WA .u8 32 key), .int .u32 c, .string s, .int .i64 cut] w fun e w' => e = .returned (.bool true) ∧ Below w.heap.size w w' := by
  have g0 : ArrAt ((w.alloc (.cells (WA .u8 32 key) 29)).alloc (.cells (WA .u8 12 fun _ => 0) 30)) w.heap.size .u8 29 32 key := heap_alloc2_old w _ _
  have g1 : ArrAt ((w.alloc (.cells (WA .u8 32 key) 29)).alloc (.cells (WA .u8 12 fun _ => 0) 30)) (w.heap.size + 1) .u8 30 12 (fun _ => 0) := heap_alloc2_new w _ _
  have hB : Below w.heap.size w ((w.alloc (.cells (WA .u8 32 key) 29)).alloc (.cells (WA .u8 12 fun _ => 0) 30)) := ((Below.refl _ w).alloc (by simp) _).alloc (by simp) _
  go_enter Try.func6, Try.ntmps6
  go_wp2_with fail
  refine wp_gen (fun v => ArrAt v w.heap.size .u8 29 32 key ∧ ArrAt v (w.heap.size + 1) .u8 30 12 (fun _ => 0) ∧ Below w.heap.size w v) ⟨g0, g1, hB⟩ ?_
  clear g0 g1 hB
  rintro v0 ⟨g0, g1, hB⟩
  refine wp_region3 (Below w.heap.size w) v0.heap.size
    [(w.heap.size, fixd (WA .u8 32 key) 29), ((w.heap.size + 1), once (WA .u8 12 (fun _ => 0)) 30 2 (WA .u8 12 (over (fun _ => 0) 0 12 fun q => key (20 + q))))]
    [kv (.slice (some ⟨(w.heap.size + 1), 0, none⟩) 12 12), kv (.slice (some ⟨w.heap.size, 20, none⟩) 12 12), .val fun _ => True]
    [.none, .none, .base 1 1]
    [some 16, some 17, some 18]
    [(4, .pointer (some ⟨w.heap.size, 0, none⟩)), (9, .pointer (some ⟨(w.heap.size + 1), 0, none⟩))]
    [[], [], [.slot 0, .slot 1, .base 1 0, .base 0 0]]
    [.base 0 0, .base 1 1] [16, 17, 18]
    rfl (by kernel_rfl) ⟨rfl, rfl, trivial⟩ (Below.drew hB) (Nat.le_refl _) ⟨⟨g0.lt, obIn g0⟩, ⟨g1.lt, obIn g1⟩, trivial⟩ ⟨⟨(show (w.heap.size : Nat) ≠ (w.heap.size + 1) from by omega), trivial⟩, trivial, trivial⟩ (below_G hB.size ⟨by omega, by omega, trivial⟩)
    ⟨
      -- 0
      (fun Q aq ww own hS hBg fr kn => .inl ⟨trivial, fun K hK => wp_value (exec_sl rfl fr.2.1 (sl12 _ _)) (hK _ _ ⟨Touch.refl _ _, rfl⟩)⟩),
      -- 1
      (fun Q aq ww own hS hBg fr kn => .inl ⟨trivial, fun K hK => wp_value (exec_slL rfl fr.1 rfl (sl32L _ 20 _ (by decide))) (hK _ _ ⟨Touch.refl _ _, rfl⟩)⟩),
      -- 2
      (fun Q aq ww own hS hBg fr kn => .inl ⟨trivial, fun K hK => act_copy rfl kn.1 kn.2.1 (obAt kn.2.2.1) (m := 12) rfl (by omega) (r := fun q => key (20 + q)) (fun q hq => ArrAt.cell (obAt kn.2.2.2.1) (20 + q) (by omega)) (fun w2 hg ho => hK _ _ ⟨⟨touch_only ho, obIn hg⟩, trivial⟩)⟩),
      trivial⟩ ?_
  intro vs own v1 hB1 hs1 kn inj
  clear inj hs1 g0 g1 hB
  have g0 : ArrAt v1 w.heap.size .u8 29 32 key := obAt kn.1
  have g1 : ArrAt v1 (w.heap.size + 1) .u8 30 12 (over (fun _ => 0) 0 12 fun q => key (20 + q)) := obAt kn.2.1
  clear kn
  simp only [putAll, Act.put, List.setIfInBounds_toArray, List.set_cons_zero, List.set_cons_succ]
  have hn : Byts 12 (over (fun _ => 0) 0 12 fun q => key (20 + q)) := fun i hi => by
    unfold over
    rw [if_pos (by omega)]
    exact hk _ (by omega)
  generalize (over (fun _ => 0) 0 12 fun q => key (20 + q)) = nonce at *
  go_wp2_with fail
  refine (pick_run cut ((s.size : Int) / 64 + 1) _ hu0 hu1 (by omega) (by omega)).mono ?_
  rintro e v2 ⟨⟨p, hp, rfl⟩, rfl⟩
  have hps : 64 * p ≤ s.size := by omega
  have hpb : p < 1000000000000000 := by omega
  have hpi : (p : Int) ≤ 2199023255551 := by omega
  have hcp : W32 ((c + (p : Nat)) % 4294967296) := by unfold W32; omega
  have HA : Hid (addw c ((p : Int) % 4294967296) = (c + (p : Nat)) % 4294967296) := Hid.mk (by unfold addw; omega)
  have hS1 := fun w => Stream_run key nonce c s w hk hn hc (Nat.le_trans hs (by decide))
  have hS2 := fun w => Stream_run key nonce c (s.extract 0 (64 * p)) w hk hn hc (by rw [take_size s _ hps]; omega)
  have hS3 := fun w => Stream_run key nonce ((c + (p : Nat)) % 4294967296) (s.extract (64 * p) s.size) w hk hn hcp (by rw [extract_size]; omega)
  have hS4 := fun w => Stream_run key nonce c (mkS 128 fun _ => 0) w hk hn hc (by rw [mkS_size]; decide)
  have HT : Hid ((mkS s.size (strm key nonce c s)).size = s.size) := Hid.mk (mkS_size _ _)
  have HX : Hid (∀ j, j < s.size → xorw (txt (mkS s.size (strm key nonce c s)) j) (ksb key nonce c j) = txt s j) := Hid.mk (fun j hj => by
    rw [txt_mkS (strm_b key nonce c s j) hj]
    exact xorw_back8 (txt_b s j) (ksb_b key nonce c j))
  have HC : Hid (mkS (s.extract 0 (64 * p)).size (strm key nonce c (s.extract 0 (64 * p))) ++ mkS (s.extract (64 * p) s.size).size (strm key nonce ((c + (p : Nat)) % 4294967296) (s.extract (64 * p) s.size)) = mkS s.size (strm key nonce c s)) := Hid.mk (strm_cut key nonce c s p hps)
  have HL : Hid ((mkS (s.extract 0 (64 * p)).size (strm key nonce c (s.extract 0 (64 * p)))).size + (mkS (s.extract (64 * p) s.size).size (strm key nonce ((c + (p : Nat)) % 4294967296) (s.extract (64 * p) s.size))).size ≤ 9223372036854775807) := Hid.mk (by rw [mkS_size, mkS_size, take_size s _ hps, extract_size]; omega)
  have HZ1 : Hid ((mkS (mkS 128 fun _ => 0).size (strm key nonce c (mkS 128 fun _ => 0))).size = 128) := Hid.mk (by rw [mkS_size, mkS_size])
  have HZ2 : Hid (∀ j, j < 128 → txt (mkS (mkS 128 fun _ => 0).size (strm key nonce c (mkS 128 fun _ => 0))) j = ksb key nonce c j) := Hid.mk (fun j hj => by
    rw [txt_mkS (strm_b key nonce c _ j) (by rw [mkS_size]; exact hj), strm_zeros])
  have HZ3 : Hid (mkS (mkS 128 fun _ => 0).size (strm key nonce c (mkS 128 fun _ => 0)) = mkS 64 (blk (ssq key c nonce 3)) ++ mkS 64 (blk (ssq key ((c + 1) % 4294967296) nonce 3))) := Hid.mk (strm_blocks key nonce c hc).symm
  generalize mkS s.size (strm key nonce c s) = t at *
  generalize mkS (s.extract 0 (64 * p)).size (strm key nonce c (s.extract 0 (64 * p))) = tA at *
  generalize mkS (s.extract (64 * p) s.size).size (strm key nonce ((c + (p : Nat)) % 4294967296) (s.extract (64 * p) s.size)) = tB at *
  generalize mkS (mkS 128 fun _ => 0).size (strm key nonce c (mkS 128 fun _ => 0)) = tZ at *
  go_wp2_with (first | (refine ld_arrG isArr32 g0 (by rfl) (by rfl) ?_) | (refine ld_arrG isArr12 g1 (by rfl) (by rfl) ?_))
  refine (hS1 _).mono ?_
  rintro e v3 ⟨rfl, hb⟩
  replace g0 := g0.kept hb
  replace g1 := g1.kept hb
  replace hB1 := hB1.trans (hb.mono hB1.size)
  clear hb
  go_wp2_with fail
  refine wp_region3 (Below w.heap.size w) v3.heap.size
    [(w.heap.size, fixd (WA .u8 32 key) 29), ((w.heap.size + 1), fixd (WA .u8 12 nonce) 30)]
    [kv (.string t), kv (.int .i64 (t.size : Int)), kv (.string s), kv (.int .i64 (s.size : Int)), kv (.bool false), kv (.bool false), kv (.agg (WA .u8 32 key)), kv (.int .u32 c), kv (.agg (WA .u8 12 nonce)), kv (.string s), kv (.int .i64 ((64 * p : Nat) : Int)), kv (.string (s.extract 0 (64 * p))), kv (.string tA), kv (.agg (WA .u8 32 key)), kv (.int .u32 c), kv (.int .i64 ((64 * p : Nat) : Int)), kv (.int .i64 (p : Int)), kv (.int .u32 ((p : Int) % 4294967296)), kv (.int .u32 ((c + (p : Nat)) % 4294967296)), kv (.agg (WA .u8 12 nonce)), kv (.string s), kv (.int .i64 ((64 * p : Nat) : Int)), kv (.string (s.extract (64 * p) s.size)), kv (.string tB), kv (.string (tA ++ tB)), kv (.string t), kv (.bool false), kv (.bool false)]
    [.none, .none, .none, .none, .none, .none, .none, .none, .none, .none, .none, .none, .none, .none, .none, .none, .none, .none, .none, .none, .none, .none, .none, .none, .none, .none, .none, .none]
    [some 31, some 32, some 33, some 34, some 35, some 36, some 37, some 38, some 39, some 40, some 41, some 42, some 43, some 44, some 45, some 46, some 47, some 48, some 49, some 50, some 51, some 52, some 53, some 54, some 55, some 56, some 57, some 58]
    [(1, .int .u32 c), (2, .string s), (4, .pointer (some ⟨w.heap.size, 0, none⟩)), (9, .pointer (some ⟨(w.heap.size + 1), 0, none⟩)), (10, .int .i64 ((64 * p : Nat) : Int)), (11, .string t)]
    [[], [.slot 0], [], [.slot 2], [.slot 1, .slot 3], [.slot 4], [.slot 5, .base 0 0], [.slot 5], [.slot 5, .base 1 0], [.slot 5], [.slot 5], [.slot 5, .slot 9, .slot 10], [.slot 5, .slot 6, .slot 7, .slot 8, .slot 11], [.slot 5, .base 0 0], [.slot 5], [.slot 5], [.slot 5, .slot 15], [.slot 5, .slot 16], [.slot 5, .slot 14, .slot 17], [.slot 5, .base 1 0], [.slot 5], [.slot 5], [.slot 5, .slot 20, .slot 21], [.slot 5, .slot 13, .slot 18, .slot 19, .slot 22], [.slot 5, .slot 12, .slot 23], [.slot 5], [.slot 5, .slot 24, .slot 25], [.slot 5, .slot 26]]
    [.base 0 0, .base 1 0, .slot 27] [31, 32, 33, 34, 35, 36, 37, 38, 39, 40, 41, 42, 43, 44, 45, 46, 47, 48, 49, 50, 51, 52, 53, 54, 55, 56, 57, 58]
    rfl (by kernel_rfl) ⟨rfl, rfl, rfl, rfl, rfl, rfl, trivial⟩ (Below.drew hB1) (Nat.le_refl _) ⟨⟨g0.lt, obIn g0⟩, ⟨g1.lt, obIn g1⟩, trivial⟩ ⟨⟨trivial, trivial⟩, trivial, trivial⟩ (below_G hB1.size ⟨by omega, by omega, trivial⟩)
    ⟨
      -- 0
      (fun Q aq ww own hS hBg fr kn => .inl ⟨trivial, fun K hK => wp_value (exec_move rfl fr.2.2.2.2.2.1) (hK _ _ ⟨Touch.refl _ _, rfl⟩)⟩),
      -- 1
      (fun Q aq ww own hS hBg fr kn => .inl ⟨trivial, fun K hK => wp_value (exec_lenS rfl kn.1) (hK _ _ ⟨Touch.refl _ _, rfl⟩)⟩),
      -- 2
      (fun Q aq ww own hS hBg fr kn => .inl ⟨trivial, fun K hK => wp_value (exec_move rfl fr.2.1) (hK _ _ ⟨Touch.refl _ _, rfl⟩)⟩),
      -- 3
      (fun Q aq ww own hS hBg fr kn => .inl ⟨trivial, fun K hK => wp_value (exec_lenS rfl kn.1) (hK _ _ ⟨Touch.refl _ _, rfl⟩)⟩),
      -- 4
      (fun Q aq ww own hS hBg fr kn => .inl ⟨trivial, fun K hK => wp_value (exec_neqI rfl kn.1 kn.2.1 (by rw [HT.out])) (hK _ _ ⟨Touch.refl _ _, rfl⟩)⟩),
      -- 5
      (fun Q aq ww own hS hBg fr kn => .inl ⟨trivial, fun K hK => wp_value (exec_move rfl kn.1) (hK _ _ ⟨Touch.refl _ _, rfl⟩)⟩),
      -- 6
      (fun Q aq ww own hS hBg fr kn => .inl ⟨kn.1, fun K hK => wp_value (look_arr rfl isArr32 (obAt kn.2.1) fr.2.2.1) (hK _ _ ⟨Touch.refl _ _, rfl⟩)⟩),
      -- 7
      (fun Q aq ww own hS hBg fr kn => .inl ⟨kn.1, fun K hK => wp_value (exec_move rfl fr.1) (hK _ _ ⟨Touch.refl _ _, rfl⟩)⟩),
      -- 8
      (fun Q aq ww own hS hBg fr kn => .inl ⟨kn.1, fun K hK => wp_value (look_arr rfl isArr12 (obAt kn.2.1) fr.2.2.2.1) (hK _ _ ⟨Touch.refl _ _, rfl⟩)⟩),
      -- 9
      (fun Q aq ww own hS hBg fr kn => .inl ⟨kn.1, fun K hK => wp_value (exec_move rfl fr.2.1) (hK _ _ ⟨Touch.refl _ _, rfl⟩)⟩),
      -- 10
      (fun Q aq ww own hS hBg fr kn => .inl ⟨kn.1, fun K hK => wp_value (exec_move rfl fr.2.2.2.2.1) (hK _ _ ⟨Touch.refl _ _, rfl⟩)⟩),
      -- 11
      (fun Q aq ww own hS hBg fr kn => .inl ⟨kn.1, fun K hK => wp_value (exec_slH rfl kn.2.1 kn.2.2.1 (strH s (64 * p) _ hps)) (hK _ _ ⟨Touch.refl _ _, rfl⟩)⟩),
      -- 12
      (fun Q aq ww own hS hBg fr kn => .inl ⟨kn.1, fun K hK => stepc enterStream rfl (args4 kn.2.1 kn.2.2.1 kn.2.2.2.1 kn.2.2.2.2.1) (hS2 ww) (fun w' hb => hK _ _ ⟨touch_below hb, rfl⟩)⟩),
      -- 13
      (fun Q aq ww own hS hBg fr kn => .inl ⟨kn.1, fun K hK => wp_value (look_arr rfl isArr32 (obAt kn.2.1) fr.2.2.1) (hK _ _ ⟨Touch.refl _ _, rfl⟩)⟩),
      -- 14
      (fun Q aq ww own hS hBg fr kn => .inl ⟨kn.1, fun K hK => wp_value (exec_move rfl fr.1) (hK _ _ ⟨Touch.refl _ _, rfl⟩)⟩),
      -- 15
      (fun Q aq ww own hS hBg fr kn => .inl ⟨kn.1, fun K hK => wp_value (exec_move rfl fr.2.2.2.2.1) (hK _ _ ⟨Touch.refl _ _, rfl⟩)⟩),
      -- 16
      (fun Q aq ww own hS hBg fr kn => .inl ⟨kn.1, fun K hK => wp_value (exec_quo rfl kn.2.1 hpb) (hK _ _ ⟨Touch.refl _ _, rfl⟩)⟩),
      -- 17
      (fun Q aq ww own hS hBg fr kn => .inl ⟨kn.1, fun K hK => wp_value (exec_conv rfl kn.2.1 (conv_u32 p _)) (hK _ _ ⟨Touch.refl _ _, rfl⟩)⟩),
      -- 18
      (fun Q aq ww own hS hBg fr kn => .inl ⟨kn.1, fun K hK => wp_value (exec_add32 rfl kn.2.1 kn.2.2.1) (hK _ _ ⟨Touch.refl _ _, congrArg (Value.int .u32) HA.out⟩)⟩),
      -- 19
      (fun Q aq ww own hS hBg fr kn => .inl ⟨kn.1, fun K hK => wp_value (look_arr rfl isArr12 (obAt kn.2.1) fr.2.2.2.1) (hK _ _ ⟨Touch.refl _ _, rfl⟩)⟩),
      -- 20
      (fun Q aq ww own hS hBg fr kn => .inl ⟨kn.1, fun K hK => wp_value (exec_move rfl fr.2.1) (hK _ _ ⟨Touch.refl _ _, rfl⟩)⟩),
      -- 21
      (fun Q aq ww own hS hBg fr kn => .inl ⟨kn.1, fun K hK => wp_value (exec_move rfl fr.2.2.2.2.1) (hK _ _ ⟨Touch.refl _ _, rfl⟩)⟩),
      -- 22
      (fun Q aq ww own hS hBg fr kn => .inl ⟨kn.1, fun K hK => wp_value (exec_slL rfl kn.2.1 kn.2.2.1 (strL s (64 * p) _ hps)) (hK _ _ ⟨Touch.refl _ _, rfl⟩)⟩),
      -- 23
      (fun Q aq ww own hS hBg fr kn => .inl ⟨kn.1, fun K hK => stepc enterStream rfl (args4 kn.2.1 kn.2.2.1 kn.2.2.2.1 kn.2.2.2.2.1) (hS3 ww) (fun w' hb => hK _ _ ⟨touch_below hb, rfl⟩)⟩),
      -- 24
      (fun Q aq ww own hS hBg fr kn => .inl ⟨kn.1, fun K hK => wp_value (exec_catS rfl kn.2.1 kn.2.2.1 HL.out) (hK _ _ ⟨Touch.refl _ _, rfl⟩)⟩),
      -- 25
      (fun Q aq ww own hS hBg fr kn => .inl ⟨kn.1, fun K hK => wp_value (exec_move rfl fr.2.2.2.2.2.1) (hK _ _ ⟨Touch.refl _ _, rfl⟩)⟩),
      -- 26
      (fun Q aq ww own hS hBg fr kn => .inl ⟨kn.1, fun K hK => wp_value (exec_neqS rfl kn.2.1 kn.2.2.1 HC.out) (hK _ _ ⟨Touch.refl _ _, rfl⟩)⟩),
      -- 27
      (fun Q aq ww own hS hBg fr kn => .inl ⟨trivial, fun K hK => wp_value (exec_pickF rfl kn.1 kn.2.1) (hK _ _ ⟨Touch.refl _ _, rfl⟩)⟩),
      trivial⟩ ?_
  intro vs4 own4 v4 hB4 hs4 kn inj
  clear inj hs4 g0 g1 hB1
  have g0 : ArrAt v4 w.heap.size .u8 29 32 key := obAt kn.1
  have g1 : ArrAt v4 (w.heap.size + 1) .u8 30 12 nonce := obAt kn.2.1
  have e58 : vs4 58 = .bool false := kn.2.2.1
  clear kn
  simp only [putAll, Act.put, List.setIfInBounds_toArray, List.set_cons_zero, List.set_cons_succ, e58]
  clear HA HL HC hS1 hS2 hS3
  go_wp2_with fail
  refine wp_region3 (Below w.heap.size w) v4.heap.size
    [(w.heap.size, fixd (WA .u8 32 key) 29), ((w.heap.size + 1), fixd (WA .u8 12 nonce) 30)]
    [kv (.agg (WA .u8 32 key)), kv (.int .u32 c), kv (.agg (WA .u8 12 nonce)), ks 128 (WA .u8 128 (fun _ => 0)) 5, kv (.string (mkS 128 fun _ => 0)), kv (.string tZ), kv (.string tZ)]
    [.none, .none, .none, .none, .none, .none, .none]
    [some 59, some 60, some 61, some 62, some 63, some 64, some 12]
    [(1, .int .u32 c), (4, .pointer (some ⟨w.heap.size, 0, none⟩)), (9, .pointer (some ⟨(w.heap.size + 1), 0, none⟩))]
    [[.base 0 0], [], [.base 1 0], [], [.slot 3, .cont 3 0], [.slot 0, .slot 1, .slot 2, .slot 4], [.slot 5]]
    [.base 0 0, .base 1 0, .slot 6] [59, 60, 61, 62, 63, 64, 12]
    rfl (by kernel_rfl) ⟨rfl, rfl, rfl, trivial⟩ (Below.drew hB4) (Nat.le_refl _) ⟨⟨g0.lt, obIn g0⟩, ⟨g1.lt, obIn g1⟩, trivial⟩ ⟨⟨trivial, trivial⟩, trivial, trivial⟩ (below_G hB4.size ⟨by omega, by omega, trivial⟩)
    ⟨
      -- 0
      (fun Q aq ww own hS hBg fr kn => .inl ⟨trivial, fun K hK => wp_value (look_arr rfl isArr32 (obAt kn.1) fr.2.1) (hK _ _ ⟨Touch.refl _ _, rfl⟩)⟩),
      -- 1
      (fun Q aq ww own hS hBg fr kn => .inl ⟨trivial, fun K hK => wp_value (exec_move rfl fr.1) (hK _ _ ⟨Touch.refl _ _, rfl⟩)⟩),
      -- 2
      (fun Q aq ww own hS hBg fr kn => .inl ⟨trivial, fun K hK => wp_value (look_arr rfl isArr12 (obAt kn.1) fr.2.2.1) (hK _ _ ⟨Touch.refl _ _, rfl⟩)⟩),
      -- 3
      (fun Q aq ww own hS hBg fr kn => .inl ⟨trivial, fun K hK => act_make rfl (fun w' hb hg => hK _ _ ⟨touch_below hb, _, Nat.le_refl _, rfl, obIn hg⟩)⟩),
      -- 4
      (fun Q aq ww own hS hBg fr kn => .inl ⟨trivial, fun K hK => wp_value (exec_conv rfl kn.1.1 (str_back 128 _ 128 _ 128 (fun _ => 0) (RowAt.of (obAt kn.2.1)) (fun _ _ => by omega) rfl)) (hK _ _ ⟨Touch.refl _ _, rfl⟩)⟩),
      -- 5
      (fun Q aq ww own hS hBg fr kn => .inl ⟨trivial, fun K hK => stepc enterStream rfl (args4 kn.1 kn.2.1 kn.2.2.1 kn.2.2.2.1) (hS4 ww) (fun w' hb => hK _ _ ⟨touch_below hb, rfl⟩)⟩),
      -- 6
      (fun Q aq ww own hS hBg fr kn => .inl ⟨trivial, fun K hK => wp_value (exec_assign rfl kn.1) (hK _ _ ⟨Touch.refl _ _, rfl⟩)⟩),
      trivial⟩ ?_
  intro vs5 own5 v5 hB1 hs5 kn inj
  clear inj hs5 g0 g1 hB4
  have g0 : ArrAt v5 w.heap.size .u8 29 32 key := obAt kn.1
  have g1 : ArrAt v5 (w.heap.size + 1) .u8 30 12 nonce := obAt kn.2.1
  have e12 : vs5 12 = .string tZ := kn.2.2.1
  clear kn hS4
  simp only [putAll, Act.put, List.setIfInBounds_toArray, List.set_cons_zero, List.set_cons_succ, e12]
  have hb1 := fun w => Block_run key nonce c w hk hn hc
  have hb2 := fun w => Block_run key nonce ((c + 1) % 4294967296) w hk hn (by unfold W32; omega)
  have B1 := blk_b (ssq key c nonce 3)
  have B2 := blk_b (ssq key ((c + 1) % 4294967296) nonce 3)
  generalize blk (ssq key c nonce 3) = f1 at *
  generalize blk (ssq key ((c + 1) % 4294967296) nonce 3) = f2 at *
  go_wp2_with (first | (refine ld_arrG isArr32 g0 (by rfl) (by rfl) ?_) | (refine ld_arrG isArr12 g1 (by rfl) (by rfl) ?_))
  refine (hb1 _).mono ?_
  rintro e v6 ⟨rfl, hb⟩
  replace g0 := g0.kept hb
  replace g1 := g1.kept hb
  replace hB1 := hB1.trans (hb.mono hB1.size)
  clear hb
  go_wp2_with (first | (refine st_arr (s' := fun _ => 0) (k' := .u8) isArr64 (heap_alloc_new v6 _) (by rfl) (by rfl) ?_; intro v7 g13 o7; refine Hid.out ?_))
  have hz6 := g1.lt
  replace g0 := (g0.alloc _).only o7 (Nat.ne_of_lt g0.lt)
  replace g1 := (g1.alloc _).only o7 (Nat.ne_of_lt g1.lt)
  replace hB1 := (hB1.alloc hB1.size _).trans (o7.below hB1.size)
  clear o7
  generalize v6.heap.size = b13 at *
  refine Hid.mk ?_
  go_wp2_with (first | (refine ld_arrG isArr32 g0 (by rfl) (by rfl) ?_) | (refine ld_arrG isArr12 g1 (by rfl) (by rfl) ?_))
  refine (hb2 _).mono ?_
  rintro e v8 ⟨rfl, hb⟩
  replace g13 := g13.kept hb
  replace g0 := g0.kept hb
  replace g1 := g1.kept hb
  replace hB1 := hB1.trans (hb.mono hB1.size)
  clear hb
  go_wp2_with (first | (refine st_arr (s' := fun _ => 0) (k' := .u8) isArr64 (heap_alloc_new v8 _) (by rfl) (by rfl) ?_; intro v9 g14 o9; refine Hid.out ?_))
  have hz8 := g13.lt
  replace g13 := (g13.alloc _).only o9 (Nat.ne_of_lt g13.lt)
  replace hB1 := (hB1.alloc hB1.size _).trans (o9.below hB1.size)
  clear o9 g0 g1
  generalize v8.heap.size = b14 at *
  refine Hid.mk ?_
  go_wp2_with fail
  refine wp_region3 (Below w.heap.size w) v9.heap.size
    [(b13, fixd (WA .u8 64 f1) 33), (b14, fixd (WA .u8 64 f2) 33)]
    [kv (.string tZ), kv (.slice (some ⟨b13, 0, none⟩) 64 64), kv (.string (mkS 64 f1)), kv (.slice (some ⟨b14, 0, none⟩) 64 64), kv (.string (mkS 64 f2)), kv (.string (mkS 64 f1 ++ mkS 64 f2)), kv (.bool false)]
    [.none, .none, .none, .none, .none, .none, .none]
    [some 74, some 75, some 76, some 77, some 78, some 79, some 80]
    [(12, .string tZ), (13, .pointer (some ⟨b13, 0, none⟩)), (14, .pointer (some ⟨b14, 0, none⟩))]
    [[], [], [.slot 1, .base 0 0], [], [.slot 3, .base 1 0], [.slot 2, .slot 4], [.slot 0, .slot 5]]
    [.slot 6] [74, 75, 76, 77, 78, 79, 80]
    rfl (by kernel_rfl) ⟨rfl, rfl, rfl, trivial⟩ (Below.drew hB1) (Nat.le_refl _) ⟨⟨g13.lt, obIn g13⟩, ⟨g14.lt, obIn g14⟩, trivial⟩ ⟨⟨trivial, trivial⟩, trivial, trivial⟩ (below_G hB1.size ⟨by omega, by omega, trivial⟩)
    ⟨
      -- 0
      (fun Q aq ww own hS hBg fr kn => .inl ⟨trivial, fun K hK => wp_value (exec_move rfl fr.1) (hK _ _ ⟨Touch.refl _ _, rfl⟩)⟩),
      -- 1
      (fun Q aq ww own hS hBg fr kn => .inl ⟨trivial, fun K hK => wp_value (exec_sl rfl fr.2.1 (sl64 _ _)) (hK _ _ ⟨Touch.refl _ _, rfl⟩)⟩),
      -- 2
      (fun Q aq ww own hS hBg fr kn => .inl ⟨trivial, fun K hK => wp_value (exec_conv rfl kn.1 (str_back 64 _ 64 _ 64 f1 (RowAt.of (obAt kn.2.1)) B1 rfl)) (hK _ _ ⟨Touch.refl _ _, rfl⟩)⟩),
      -- 3
      (fun Q aq ww own hS hBg fr kn => .inl ⟨trivial, fun K hK => wp_value (exec_sl rfl fr.2.2.1 (sl64 _ _)) (hK _ _ ⟨Touch.refl _ _, rfl⟩)⟩),
      -- 4
      (fun Q aq ww own hS hBg fr kn => .inl ⟨trivial, fun K hK => wp_value (exec_conv rfl kn.1 (str_back 64 _ 64 _ 64 f2 (RowAt.of (obAt kn.2.1)) B2 rfl)) (hK _ _ ⟨Touch.refl _ _, rfl⟩)⟩),
      -- 5
      (fun Q aq ww own hS hBg fr kn => .inl ⟨trivial, fun K hK => wp_value (exec_catS rfl kn.1 kn.2.1 (by rw [mkS_size, mkS_size]; decide)) (hK _ _ ⟨Touch.refl _ _, rfl⟩)⟩),
      -- 6
      (fun Q aq ww own hS hBg fr kn => .inl ⟨trivial, fun K hK => wp_value (exec_neqS rfl kn.1 kn.2.1 HZ3.out) (hK _ _ ⟨Touch.refl _ _, rfl⟩)⟩),
      trivial⟩ ?_
  intro vs10 own10 v10 hB hs10 kn inj
  clear inj hs10 hB1 g13 g14
  have e80 : vs10 80 = .bool false := kn.1
  clear kn
  simp only [putAll, Act.put, List.setIfInBounds_toArray, List.set_cons_zero, List.set_cons_succ, e80]
  clear HZ3 hb1 hb2 B1 B2
  go_wp2_with fail
  have hT := HT.out
  go_loopg [15] (min s.size 128) (fun m iv v => ∃ i : Nat, Hid (m + i = min s.size 128) ∧ iv = .int .i64 i ∧ Below w.heap.size w v)
  case atStart => exact ⟨0, Hid.mk (by omega), rfl, hB⟩
  case round =>
    clear hB
    obtain ⟨i, HI, rfl, hB⟩ := hrel
    have him : i ≤ min s.size 128 := by have := HI.out; omega
    by_cases hlt : i < min s.size 128
    · have his : i < s.size := by omega
      have hit : i < t.size := by omega
      have hi128 : i < 128 := by omega
      have hiz : i < tZ.size := by rw [HZ1.out]; exact hi128
      have HE : Hid (xorw (txt t i) (txt tZ i) = txt s i) := Hid.mk (by rw [HZ2.out i hi128]; exact HX.out i his)
      go_wp2_with fail
      refine wp_region3 (Below w.heap.size w) wr.heap.size
        []
        [kv (.string t), kv (.int .i64 (i : Int)), kv (.int .u8 (txt t i)), kv (.string tZ), kv (.int .i64 (i : Int)), kv (.int .u8 (txt tZ i)), kv (.int .u8 (xorw (txt t i) (txt tZ i))), kv (.string s), kv (.int .i64 (i : Int)), kv (.int .u8 (txt s i)), kv (.bool false)]
        [.none, .none, .none, .none, .none, .none, .none, .none, .none, .none, .none]
        [some 91, some 92, some 93, some 94, some 95, some 96, some 97, some 98, some 99, some 100, some 101]
        [(2, .string s), (11, .string t), (12, .string tZ), (15, .int .i64 (i : Int))]
        [[], [], [.slot 0, .slot 1], [], [], [.slot 3, .slot 4], [.slot 2, .slot 5], [], [], [.slot 7, .slot 8], [.slot 6, .slot 9]]
        [.slot 10] [91, 92, 93, 94, 95, 96, 97, 98, 99, 100, 101]
        rfl (by kernel_rfl) ⟨rfl, rfl, rfl, rfl, trivial⟩ (Below.drew hB) (Nat.le_refl _) trivial trivial (below_G hB.size trivial)
        ⟨
          -- 0
          (fun Q aq ww own hS hBg fr kn => .inl ⟨trivial, fun K hK => wp_value (exec_move rfl fr.2.1) (hK _ _ ⟨Touch.refl _ _, rfl⟩)⟩),
          -- 1
          (fun Q aq ww own hS hBg fr kn => .inl ⟨trivial, fun K hK => wp_value (exec_move rfl fr.2.2.2.1) (hK _ _ ⟨Touch.refl _ _, rfl⟩)⟩),
          -- 2
          (fun Q aq ww own hS hBg fr kn => .inl ⟨trivial, fun K hK => wp_value (exec_ixs rfl kn.1 kn.2.1 hit) (hK _ _ ⟨Touch.refl _ _, rfl⟩)⟩),
          -- 3
          (fun Q aq ww own hS hBg fr kn => .inl ⟨trivial, fun K hK => wp_value (exec_move rfl fr.2.2.1) (hK _ _ ⟨Touch.refl _ _, rfl⟩)⟩),
          -- 4
          (fun Q aq ww own hS hBg fr kn => .inl ⟨trivial, fun K hK => wp_value (exec_move rfl fr.2.2.2.1) (hK _ _ ⟨Touch.refl _ _, rfl⟩)⟩),
          -- 5
          (fun Q aq ww own hS hBg fr kn => .inl ⟨trivial, fun K hK => wp_value (exec_ixs rfl kn.1 kn.2.1 hiz) (hK _ _ ⟨Touch.refl _ _, rfl⟩)⟩),
          -- 6
          (fun Q aq ww own hS hBg fr kn => .inl ⟨trivial, fun K hK => wp_value (exec_xor8 rfl kn.1 kn.2.1 (txt_b t i) (txt_b tZ i)) (hK _ _ ⟨Touch.refl _ _, rfl⟩)⟩),
          -- 7
          (fun Q aq ww own hS hBg fr kn => .inl ⟨trivial, fun K hK => wp_value (exec_move rfl fr.1) (hK _ _ ⟨Touch.refl _ _, rfl⟩)⟩),
          -- 8
          (fun Q aq ww own hS hBg fr kn => .inl ⟨trivial, fun K hK => wp_value (exec_move rfl fr.2.2.2.1) (hK _ _ ⟨Touch.refl _ _, rfl⟩)⟩),
          -- 9
          (fun Q aq ww own hS hBg fr kn => .inl ⟨trivial, fun K hK => wp_value (exec_ixs rfl kn.1 kn.2.1 his) (hK _ _ ⟨Touch.refl _ _, rfl⟩)⟩),
          -- 10
          (fun Q aq ww own hS hBg fr kn => .inl ⟨trivial, fun K hK => wp_value (exec_neq8 rfl kn.1 kn.2.1 HE.out) (hK _ _ ⟨Touch.refl _ _, rfl⟩)⟩),
          trivial⟩ ?_
      intro vs11 own11 v11 hB11 hs11 kn inj
      clear inj hs11
      have e101 : vs11 101 = .bool false := kn.1
      clear kn
      simp only [putAll, Act.put, List.setIfInBounds_toArray, List.set_cons_zero, List.set_cons_succ, e101]
      go_wp2_with fail
      go_roundg (min s.size 128 - (i + 1))
      case rel => exact ⟨i + 1, Hid.mk (by omega), by go_num, hB11⟩
      case measure => have := HI.out; omega
    · have hi2 : i = min s.size 128 := by omega
      have hend : ¬ ((i : Int) < (t.size : Int) ∧ (i : Int) < 128) := by omega
      by_cases hit : (i : Int) < (t.size : Int)
      · have hi128 : ¬ ((i : Int) < 128) := by omega
        go_wp2_with fail
        refine (awake_run _).mono ?_
        rintro e v12 ⟨rfl, rfl⟩
        go_wp2_with fail
        go_ret
        exact ⟨rfl, hB⟩
      · go_wp2_with fail
        refine (awake_run _).mono ?_
        rintro e v12 ⟨rfl, rfl⟩
        go_wp2_with fail
        go_ret
        exact ⟨rfl, hB⟩
end Go.Proofs.Ytfgebcemdjplnaa
