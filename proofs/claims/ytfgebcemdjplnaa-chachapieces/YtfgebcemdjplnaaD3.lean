/-
  Own text. The walk of the law ChachaStreams.
-/
import Derived.Test.YtfgebcemdjplnaaS4
namespace Go.Proofs.Ytfgebcemdjplnaa
open Go.RowKit Go.Proofs
theorem xorw_back8 {x y : Int} (hx : 0 ≤ x ∧ x < 256) (hy : 0 ≤ y ∧ y < 256) : xorw (xorw x y) y = x := xorw_back (by unfold W32; omega) (by unfold W32; omega)
theorem strm_back (key nonce : Nat → Int) (c : Int) (s : ByteArray) : mkS (mkS s.size (strm key nonce c s)).size (strm key nonce c (mkS s.size (strm key nonce c s))) = s := by
  rw [mkS_size]
  conv => rhs; rw [← mkS_txt s]
  refine mkS_congr (fun j hj => ?_)
  show xorw (txt (mkS s.size (strm key nonce c s)) j) (ksb key nonce c j) = txt s j
  rw [txt_mkS (strm_b key nonce c s j) hj]
  exact xorw_back8 (txt_b s j) (blk_b _ _ (Nat.mod_lt _ (by decide)))
theorem ld_arrG {ops : Array Oper} {rest : List Oper} {d : Option Tmp} {x : Operand} {t ty : TypeId} {ps : String} {af : Array Edge} {gd : Option (Nat × Bool)} {a : Act} {w : World} {Q : Exit → Act → World → Prop} {g n : Nat} {k : IntKind} {s : Nat → Int}
    (hA : IsArr ty n) (hg : ArrAt w g k ty n s) (hx : a.eval x = .pointer (some ⟨g, 0, none⟩)) (hw : Region.wanted { dst := d, op := .load ty x, type := t, pos := ps, after := af, guard := gd } (yielded ops a.tmps) = true) (h : wpList Try.prog ops Q rest (a.put d (.agg (WA k n s))) w) :
    wpList Try.prog ops Q ({ dst := d, op := .load ty x, type := t, pos := ps, after := af, guard := gd } :: rest) a w := wl_value hw (look_arr rfl hA hg hx) h
set_option maxHeartbeats 4000000 in
set_option maxRecDepth 100000 in
theorem streams_walk (key : Nat → Int) (c : Int) (s : ByteArray) (w : World) (hk : Byts 32 key) (hc : W32 c) (hs : s.size ≤ 140737488355328) :
    Calls Try.prog 5 #[.agg (WA .u8 32 key), .int .u32 c, .string s] w fun e w' => e = .returned (.bool true) ∧ Below w.heap.size w w' := by
  have g0 : ArrAt ((w.alloc (.cells (WA .u8 32 key) 29)).alloc (.cells (WA .u8 12 fun _ => 0) 30)) w.heap.size .u8 29 32 key := heap_alloc2_old w _ _
  have g1 : ArrAt ((w.alloc (.cells (WA .u8 32 key) 29)).alloc (.cells (WA .u8 12 fun _ => 0) 30)) (w.heap.size + 1) .u8 30 12 (fun _ => 0) := heap_alloc2_new w _ _
  have hB : Below w.heap.size w ((w.alloc (.cells (WA .u8 32 key) 29)).alloc (.cells (WA .u8 12 fun _ => 0) 30)) := ((Below.refl _ w).alloc (by simp) _).alloc (by simp) _
  go_enter Try.func5, Try.ntmps5
  go_wp2_with fail
  refine wp_gen (fun v => ArrAt v w.heap.size .u8 29 32 key ∧ ArrAt v (w.heap.size + 1) .u8 30 12 (fun _ => 0) ∧ Below w.heap.size w v) ⟨g0, g1, hB⟩ ?_
  clear g0 g1 hB
  rintro v0 ⟨g0, g1, hB⟩
  refine wp_region3 (Below w.heap.size w) v0.heap.size
    [(w.heap.size, fixd (WA .u8 32 key) 29), ((w.heap.size + 1), once (WA .u8 12 (fun _ => 0)) 30 2 (WA .u8 12 (over (fun _ => 0) 0 12 fun q => key (5 + q))))]
    [kv (.slice (some ⟨(w.heap.size + 1), 0, none⟩) 12 12), kv (.slice (some ⟨w.heap.size, 5, none⟩) 27 27), .val fun _ => True]
    [.none, .none, .base 1 1]
    [some 9, some 10, some 11]
    [(3, .pointer (some ⟨w.heap.size, 0, none⟩)), (7, .pointer (some ⟨(w.heap.size + 1), 0, none⟩))]
    [[], [], [.slot 0, .slot 1, .base 1 0, .base 0 0]]
    [.base 0 0, .base 1 1] [9, 10, 11]
    rfl (by kernel_rfl) ⟨rfl, rfl, trivial⟩ (Below.drew hB) (Nat.le_refl _) ⟨⟨g0.lt, obIn g0⟩, ⟨g1.lt, obIn g1⟩, trivial⟩ ⟨⟨(show (w.heap.size : Nat) ≠ (w.heap.size + 1) from by omega), trivial⟩, trivial, trivial⟩ (below_G hB.size ⟨by omega, by omega, trivial⟩)
    ⟨
      -- 0
      (fun Q aq ww own hS hBg fr kn => .inl ⟨trivial, fun K hK => wp_value (exec_sl rfl fr.2.1 (sl12 _ _)) (hK _ _ ⟨Touch.refl _ _, rfl⟩)⟩),
      -- 1
      (fun Q aq ww own hS hBg fr kn => .inl ⟨trivial, fun K hK => wp_value (exec_slL rfl fr.1 rfl (sl32L _ 5 _ (by decide))) (hK _ _ ⟨Touch.refl _ _, rfl⟩)⟩),
      -- 2
      (fun Q aq ww own hS hBg fr kn => .inl ⟨trivial, fun K hK => act_copy rfl kn.1 kn.2.1 (obAt kn.2.2.1) (m := 12) rfl (by omega) (r := fun q => key (5 + q)) (fun q hq => ArrAt.cell (obAt kn.2.2.2.1) (5 + q) (by omega)) (fun w2 hg ho => hK _ _ ⟨⟨touch_only ho, obIn hg⟩, trivial⟩)⟩),
      trivial⟩ ?_
  intro vs own v1 hB1 hs1 kn inj
  clear inj hs1 g0 g1 hB
  have g0 : ArrAt v1 w.heap.size .u8 29 32 key := obAt kn.1
  have g1 : ArrAt v1 (w.heap.size + 1) .u8 30 12 (over (fun _ => 0) 0 12 fun q => key (5 + q)) := obAt kn.2.1
  clear kn
  simp only [putAll, Act.put, List.setIfInBounds_toArray, List.set_cons_zero, List.set_cons_succ]
  have hn : Byts 12 (over (fun _ => 0) 0 12 fun q => key (5 + q)) := fun i hi => by
    unfold over
    rw [if_pos (by omega)]
    exact hk _ (by omega)
  generalize (over (fun _ => 0) 0 12 fun q => key (5 + q)) = nonce at *
  have HT : Hid ((mkS s.size (strm key nonce c s)).size ≤ 140737488355328) := Hid.mk (by rw [mkS_size]; exact hs)
  have HK : Hid (mkS (mkS s.size (strm key nonce c s)).size (strm key nonce c (mkS s.size (strm key nonce c s))) = s) := Hid.mk (strm_back key nonce c s)
  have hS1 := fun w => Stream_run key nonce c s w hk hn hc hs
  have hS2 := fun w => rStream_run key nonce c s w hk hn hc hs
  have hS3 := fun w => Stream_run key nonce c (mkS s.size (strm key nonce c s)) w hk hn hc HT.out
  rw [HK.out] at hS3
  clear HK HT
  generalize mkS s.size (strm key nonce c s) = t at *
  go_wp2_with (first | (refine ld_arrG isArr32 g0 (by rfl) (by rfl) ?_) | (refine ld_arrG isArr12 g1 (by rfl) (by rfl) ?_))
  refine (hS1 _).mono ?_
  rintro e v2 ⟨rfl, hb⟩
  replace g0 := g0.kept hb
  replace g1 := g1.kept hb
  replace hB1 := hB1.trans (hb.mono hB1.size)
  clear hb
  go_wp2_with (first | (refine ld_arrG isArr32 g0 (by rfl) (by rfl) ?_) | (refine ld_arrG isArr12 g1 (by rfl) (by rfl) ?_))
  refine (hS2 _).mono ?_
  rintro e v3 ⟨rfl, hb⟩
  replace g0 := g0.kept hb
  replace g1 := g1.kept hb
  replace hB1 := hB1.trans (hb.mono hB1.size)
  clear hb
  go_wp2_with (first | (refine ld_arrG isArr32 g0 (by rfl) (by rfl) ?_) | (refine ld_arrG isArr12 g1 (by rfl) (by rfl) ?_))
  refine (hS3 _).mono ?_
  rintro e v4 ⟨rfl, hb⟩
  replace g0 := g0.kept hb
  replace g1 := g1.kept hb
  replace hB1 := hB1.trans (hb.mono hB1.size)
  clear hb
  go_wp2_with (first | (refine ld_arrG isArr32 g0 (by rfl) (by rfl) ?_) | (refine ld_arrG isArr12 g1 (by rfl) (by rfl) ?_))
  refine (awake_run _).mono ?_
  rintro e v5 ⟨rfl, rfl⟩
  go_wp2_with fail
  go_ret
  exact ⟨rfl, hB1⟩
end Go.Proofs.Ytfgebcemdjplnaa
