/-
  Own text. The walk of the law PolyCuts.
-/
import Derived.Test.YtfbeclleeehaaaaQ4a
namespace Go.Proofs.Ytfbeclleeehaaaa
open Go.RowKit Go.Proofs
set_option maxHeartbeats 8000000 in
set_option maxRecDepth 100000 in
theorem cuts_walk (key : Nat → Int) (s : ByteArray) (more : Int) (w : World) (hk : Byts 32 key) (hs : s.size ≤ 140737488355328) (hm : 0 ≤ more ∧ more < 256) : Calls Try.prog 6 #[.agg (WA .u8 32 key), .string s, .int .u8 more] w fun e w' => e = .returned (.bool true) ∧ Below w.heap.size w w' := by
  have g0 : ArrAt (w.alloc (.cells (WA .u8 32 key) 22)) w.heap.size .u8 22 32 key := heap_alloc_new w _
  have hB : Below w.heap.size w (w.alloc (.cells (WA .u8 32 key) 22)) := (Below.refl _ w).alloc (Nat.le_refl _) _
  have HK := Hid.mk hk
  have HM := Hid.mk hm
  have HS := Hid.mk hs
  have HT : Hid (∀ (k : Nat → Int), Byts 32 k → ∀ (ww : World) (v : Value), Strs ww v 1 (one1 s) → Calls Try.prog 8 #[.agg (WA .u8 32 k), v] ww fun e w' => e = .returned (.agg (WA .u8 16 (digN (markN k (txt s) s.size)))) ∧ Below ww.heap.size ww w') := Hid.mk (fun k hk ww v h => by
    have h1 := Tag_run k v 1 (one1 s) ww hk h (by decide)
    rw [join1] at h1
    exact h1)
  have HT2 : Hid (∀ i, i ≤ s.size → ∀ (ww : World) (b : Nat), ww.heap[b]? = some (.cells #[.string (s.extract 0 i), .string (s.extract i s.size)] 9 (0, 0)) → Calls Try.prog 8 #[.agg (WA .u8 32 key), .slice (some ⟨b, 0, none⟩) 2 2] ww fun e w' => e = .returned (.agg (WA .u8 16 (digN (markN key (txt s) s.size)))) ∧ Below ww.heap.size ww w') := Hid.mk (fun i hi ww b h => by
    have h1 := Tag_run key _ 2 _ ww hk (strs2 h) (by decide)
    rw [join_cut s i hi] at h1
    exact h1)
  clear hk hs hm
  go_enter Try.func6, Try.ntmps6
  go_wp2_with (first | (refine ld_arr isArr32 g0 (by rfl) ?_) | (refine wl_bs1 (by rfl) ?_; intro v1 hS1 hb1 hz1; refine Hid.out ?_))
  replace g0 := g0.kept hb1
  replace hB := hB.trans (hb1.mono hB.size)
  rw [World.size_alloc] at hS1
  clear hz1 hb1
  refine Hid.mk ?_
  go_wp2_with fail
  refine (HT.out key HK.out v1 _ hS1).mono ?_
  rintro e v2 ⟨rfl, hb2⟩
  replace g0 := g0.kept hb2
  replace hB := hB.trans (hb2.mono hB.size)
  clear hb2 hS1
  have gn := fun o (ho : o = Obj.cells (WA .u8 16 fun _ => 0) 23 (0, 0)) => (by rw [ho]; exact heap_alloc_new v2 _ : ArrAt (v2.alloc o) v2.heap.size .u8 23 16 (fun _ => 0))
  have hz2 := g0.lt
  go_wp2_with (refine st_arr isArr16 (gn _ rfl) (by rfl) (by rfl) ?_; intro v3 gw o3; refine Hid.out ?_)
  replace g0 := (g0.alloc _).only o3 (by omega)
  have hBS := hB.size
  replace hB := (hB.alloc hBS _).trans (o3.below hBS)
  obtain ⟨bw, hbw⟩ : ∃ bw, v2.heap.size = bw := ⟨_, rfl⟩
  rw [hbw] at gw hz2
  clear o3 gn
  refine Hid.mk ?_
  go_wp2_with fail
  go_loopg [8] 42 (fun gm iv v => ∃ i : Nat, Hid (gm + i = 42) ∧ Hid (i ≤ s.size + 1) ∧ iv = .int .i64 (i : Int) ∧ ArrAt v w.heap.size .u8 22 32 key ∧ ArrAt v bw .u8 23 16 (digN (markN key (txt s) s.size)) ∧ Below w.heap.size w v)
  case atStart => exact ⟨0, Hid.mk rfl, Hid.mk (by omega), rfl, g0, gw, hB⟩
  case round =>
    clear g0 gw hB hbw
    obtain ⟨i, HI, HI2, rfl, g0, gw, hB⟩ := hrel
    have hi42 : i ≤ 42 := by have := HI.out; omega
    by_cases hc : i ≤ s.size ∧ i ≤ 40
    · have hc1 : (i : Int) ≤ (s.size : Int) := by omega
      have hc2 : (i : Int) ≤ 40 := by omega
      have hd1 : decide ((i : Int) ≤ (s.size : Int)) = true := decide_eq_true hc1
      have hd2 : decide ((i : Int) ≤ 40) = true := decide_eq_true hc2
      have HIS := Hid.mk hc.1
      have HT3 := Hid.mk (HT2.out i hc.1)
      generalize gk = gz at *
      go_wp2_with fail
      refine wp_gen (fun v => ArrAt v w.heap.size .u8 22 32 key ∧ ArrAt v bw .u8 23 16 (digN (markN key (txt s) s.size)) ∧ Below w.heap.size w v) ⟨g0, gw, hB⟩ ?_
      clear g0 gw hB
      rintro v0 ⟨g0, gw, hB⟩
      have HG0 : Hid (∀ u, Below v0.heap.size v0 u → ArrAt u w.heap.size .u8 22 32 key) := Hid.mk (fun u hu => g0.kept hu)
      have HGW : Hid (∀ u, Below v0.heap.size v0 u → ArrAt u bw .u8 23 16 (digN (markN key (txt s) s.size))) := Hid.mk (fun u hu => gw.kept hu)
      refine wp_region3 (Below v0.heap.size v0) v0.heap.size
        ([] : List (Nat × Cont))
        [kv (.agg (WA .u8 32 key)), kv (.string s), kv (.int .i64 (i : Int)), kv (.string (s.extract 0 i)), kv (.string s), kv (.int .i64 (i : Int)), kv (.string (s.extract i s.size)), ks 2 #[.string (s.extract 0 i), .string (s.extract i s.size)] 9, kv (.agg (WA .u8 16 (digN (markN key (txt s) s.size)))), kv (.agg (WA .u8 16 (digN (markN key (txt s) s.size)))), kv (.bool false)]
        [.none, .none, .none, .none, .none, .none, .none, .none, .none, .none, .none]
        [some 30, some 31, some 32, some 33, some 34, some 35, some 36, some 37, some 38, some 39, some 40]
        [(3, .pointer (some ⟨w.heap.size, 0, none⟩)), (1, .string s), (8, .int .i64 (i : Int)), (7, .pointer (some ⟨bw, 0, none⟩))]
        [[], [], [], [.slot 1, .slot 2], [], [], [.slot 4, .slot 5], [.slot 3, .slot 6], [.slot 0, .slot 7, .cont 7 0], [], [.slot 8, .slot 9]]
        [.slot 10] [30, 31, 32, 33, 34, 35, 36, 37, 38, 39, 40]
        rfl (by kernel_rfl) ⟨rfl, rfl, rfl, rfl, trivial⟩ (Below.refl _ v0).drew (Nat.le_refl _) trivial trivial (below_G (Nat.le_refl _) trivial)
        ⟨
          -- 0
          (fun Q aq ww own hS hBg fr kn => .inl ⟨trivial, fun K hK => wp_value (look_arr rfl isArr32 (HG0.out ww hS) fr.1) (hK _ _ ⟨Touch.refl _ _, rfl⟩)⟩),
          -- 1
          (fun Q aq ww own hS hBg fr kn => .inl ⟨trivial, fun K hK => wp_value (exec_move rfl fr.2.1) (hK _ _ ⟨Touch.refl _ _, rfl⟩)⟩),
          -- 2
          (fun Q aq ww own hS hBg fr kn => .inl ⟨trivial, fun K hK => wp_value (exec_move rfl fr.2.2.1) (hK _ _ ⟨Touch.refl _ _, rfl⟩)⟩),
          -- 3
          (fun Q aq ww own hS hBg fr kn => .inl ⟨trivial, fun K hK => wp_value (exec_slH rfl kn.1 kn.2.1 (strH s i _ HIS.out)) (hK _ _ ⟨Touch.refl _ _, rfl⟩)⟩),
          -- 4
          (fun Q aq ww own hS hBg fr kn => .inl ⟨trivial, fun K hK => wp_value (exec_move rfl fr.2.1) (hK _ _ ⟨Touch.refl _ _, rfl⟩)⟩),
          -- 5
          (fun Q aq ww own hS hBg fr kn => .inl ⟨trivial, fun K hK => wp_value (exec_move rfl fr.2.2.1) (hK _ _ ⟨Touch.refl _ _, rfl⟩)⟩),
          -- 6
          (fun Q aq ww own hS hBg fr kn => .inl ⟨trivial, fun K hK => wp_value (exec_slL rfl kn.1 kn.2.1 (strL s i _ HIS.out)) (hK _ _ ⟨Touch.refl _ _, rfl⟩)⟩),
          -- 7
          (fun Q aq ww own hS hBg fr kn => .inl ⟨trivial, fun K hK => act_bs2 rfl kn.1 kn.2.1 (fun v hg hb => hK _ _ ⟨touch_below hb, _, Nat.le_refl _, rfl, obIn hg⟩)⟩),
          -- 8
          (fun Q aq ww own hS hBg fr kn => .inl ⟨trivial, fun K hK => stepc enterTag rfl (args2 kn.1 kn.2.1.1) (HT3.out ww (own 7) (obAt kn.2.2.1)) (fun w' hb => hK _ _ ⟨touch_below hb, rfl⟩)⟩),
          -- 9
          (fun Q aq ww own hS hBg fr kn => .inl ⟨trivial, fun K hK => wp_value (look_arr rfl isArr16 (HGW.out ww hS) fr.2.2.2.1) (hK _ _ ⟨Touch.refl _ _, rfl⟩)⟩),
          -- 10
          (fun Q aq ww own hS hBg fr kn => .inl ⟨trivial, fun K hK => wp_value (neq_WA rfl Try.underlying23 eqG16 kn.1 kn.2.1) (hK _ _ ⟨Touch.refl _ _, rfl⟩)⟩),
          trivial⟩ ?_
      intro vs own v5 hB5 hs5 kn inj
      clear inj hs5
      replace g0 := g0.kept hB5
      replace gw := gw.kept hB5
      replace hB := hB.trans (hB5.mono hB.size)
      have e40 : vs 40 = .bool false := kn.1
      clear kn hB5 HG0 HGW
      simp only [putAll, Act.put, List.setIfInBounds_toArray, List.set_cons_zero, List.set_cons_succ, e40]
      go_wp2_with fail
      go_roundg (42 - (i + 1))
      case rel => exact ⟨i + 1, Hid.mk (by omega), Hid.mk (by omega), by go_num, g0, gw, hB⟩
      case measure => have := HI.out; omega
    · generalize gk = gz at *
      obtain ⟨bn, hbn⟩ : ∃ bn, wr.heap.size = bn := ⟨_, rfl⟩
      have gn := fun o (ho : o = Obj.cells (WA .u8 32 fun _ => 0) 22 (0, 0)) => (by rw [ho]; exact heap_alloc_new wr _ : ArrAt (wr.alloc o) wr.heap.size .u8 22 32 (fun _ => 0))
      have hz0 := gw.lt
      have hBS := hB.size
      have HBA := Hid.mk (hB.alloc hBS)
      rw [hbn] at gn hz0
      have HI9 : Hid True := Hid.mk trivial
      clear HI HI2
      by_cases h1 : i ≤ s.size
      · have h2 : 40 < i := by omega
        have h3 : ¬ ((i : Int) ≤ 40) := by omega
        have h4 : decide ((i : Int) ≤ 40) = false := decide_eq_false h3
        go_wp2_with fail
        refine wp_gen (fun v => ArrAt v w.heap.size .u8 22 32 key ∧ ArrAt v bw .u8 23 16 (digN (markN key (txt s) s.size)) ∧ ArrAt v bn .u8 22 32 (fun _ => 0) ∧ Below w.heap.size w v) ⟨g0.alloc _, gw.alloc _, gn _ rfl, HBA.out _⟩ ?_
        clear g0 gw hB gn HBA hc hi42
        rintro v0 ⟨g0, gw, gn, hB⟩
        refine wp_region3 (Below w.heap.size w) v0.heap.size
              [(bn, once (WA .u8 32 (fun _ => 0)) 22 2 (WA .u8 32 (over (fun _ => 0) 16 16 fun q => key (16 + q)))), (w.heap.size, fixd (WA .u8 32 key) 22), (bw, fixd (WA .u8 16 (digN (markN key (txt s) s.size))) 23)]
              [kv (.slice (some ⟨bn, 16, none⟩) 16 16), kv (.slice (some ⟨w.heap.size, 16, none⟩) 16 16), .val fun _ => True]
              [.none, .none, .base 0 1]
              [some 41, some 42, some 43]
              [(9, .pointer (some ⟨bn, 0, none⟩)), (3, .pointer (some ⟨w.heap.size, 0, none⟩))]
              [[], [], [.slot 0, .slot 1, .base 0 0, .base 1 0]]
              [.base 0 1, .base 1 0, .base 2 0] [41, 42, 43]
              rfl (by kernel_rfl) ⟨rfl, rfl, trivial⟩ (Below.drew hB) (Nat.le_refl _) ⟨⟨gn.lt, obIn gn⟩, ⟨g0.lt, obIn g0⟩, ⟨gw.lt, obIn gw⟩, trivial⟩ ⟨⟨(show (bn : Nat) ≠ w.heap.size from by omega), (show (bn : Nat) ≠ bw from by omega), trivial⟩, ⟨trivial, trivial⟩, trivial, trivial⟩ (below_G hB.size ⟨by omega, by omega, by omega, trivial⟩)
              ⟨
                -- 0
                (fun Q aq ww own hS hBg fr kn => .inl ⟨trivial, fun K hK => wp_value (exec_slL (v := .pointer (some ⟨bn, 0, none⟩)) (u := .int .i64 16) rfl fr.1 rfl (sl32e bn ww)) (hK _ _ ⟨Touch.refl _ _, rfl⟩)⟩),
                -- 1
                (fun Q aq ww own hS hBg fr kn => .inl ⟨trivial, fun K hK => wp_value (exec_slL (v := .pointer (some ⟨w.heap.size, 0, none⟩)) (u := .int .i64 16) rfl fr.2.1 rfl (sl32e w.heap.size ww)) (hK _ _ ⟨Touch.refl _ _, rfl⟩)⟩),
                -- 2
                (fun Q aq ww own hS hBg fr kn => .inl ⟨trivial, fun K hK => act_copy rfl kn.1 kn.2.1 (obAt kn.2.2.1) (m := 16) rfl (by omega) (r := fun q => key (16 + q)) (fun q hq => ArrAt.cell (obAt kn.2.2.2.1) (16 + q) (by omega)) (fun w2 hg ho => hK _ _ ⟨⟨touch_only ho, obIn hg⟩, trivial⟩)⟩),
                trivial⟩ ?_
        intro vs own v1 hB1 hs1 kn inj
        clear inj hs1 g0 gw gn hB
        have gn : ArrAt v1 bn .u8 22 32 (over (fun _ => 0) 16 16 fun q => key (16 + q)) := obAt kn.1
        have g0 : ArrAt v1 w.heap.size .u8 22 32 key := obAt kn.2.1
        have gw : ArrAt v1 bw .u8 23 16 (digN (markN key (txt s) s.size)) := obAt kn.2.2.1
        have hB := hB1
        clear kn hB1
        simp only [putAll, Act.put, List.setIfInBounds_toArray, List.set_cons_zero, List.set_cons_succ]
        have HZ : Hid (Byts 32 (over (fun _ => 0) 16 16 fun q => key (16 + q)) ∧ ∀ i, i < 16 → digN (markN (over (fun _ => 0) 16 16 fun q => key (16 + q)) (txt s) s.size) i = key (16 + i)) := Hid.mk (zk_facts HK.out (txt s) s.size)
        generalize (over (fun _ => 0) 16 16 fun q => key (16 + q)) = zk at *
        go_wp2_with (first | (refine ld_arr isArr32 gn (by rfl) ?_) | (refine wl_bs1 (by rfl) ?_; intro u1 hS1 hb1 hz1; refine Hid.out ?_))
        replace g0 := g0.kept hb1
        replace gw := gw.kept hb1
        replace hB := hB.trans (hb1.mono hB.size)
        clear hz1 hb1 gn
        refine Hid.mk ?_
        go_wp2_with fail
        refine (HT.out zk HZ.out.1 u1 _ hS1).mono ?_
        rintro e u2 ⟨rfl, hb2⟩
        replace g0 := g0.kept hb2
        replace gw := gw.kept hb2
        replace hB := hB.trans (hb2.mono hB.size)
        clear hb2 hS1
        have gn := fun o (ho : o = Obj.cells (WA .u8 16 fun _ => 0) 23 (0, 0)) => (by rw [ho]; exact heap_alloc_new u2 _ : ArrAt (u2.alloc o) u2.heap.size .u8 23 16 (fun _ => 0))
        have hz2 := gw.lt
        have hz3 := g0.lt
        go_wp2_with (refine st_arr isArr16 (gn _ rfl) (by rfl) (by rfl) ?_; intro u3 gz o3; refine Hid.out ?_)
        replace g0 := (g0.alloc _).only o3 (by omega)
        replace gw := (gw.alloc _).only o3 (by omega)
        have hBS2 := hB.size
        replace hB := (hB.alloc hBS2 _).trans (o3.below hBS2)
        replace gz := gz.congr HZ.out.2
        clear o3 gn HZ
        generalize u2.heap.size = bz at *
        have gn := fun o (ho : o = Obj.cells (WA .u8 32 fun _ => 0) 22 (0, 0)) => (by rw [ho]; exact heap_alloc_new u3 _ : ArrAt (u3.alloc o) u3.heap.size .u8 22 32 (fun _ => 0))
        have hz4 := gz.lt
        refine Hid.mk ?_
        go_wp2_with (first | (refine ld_arr isArr32 g0 (by rfl) ?_) | (refine st_arr isArr32 (gn _ rfl) (by rfl) (by rfl) ?_; intro u4 gq o4; refine Hid.out ?_))
        replace g0 := (g0.alloc _).only o4 (by omega)
        replace gw := (gw.alloc _).only o4 (by omega)
        replace gz := (gz.alloc _).only o4 (by omega)
        have hBS3 := hB.size
        replace hB := (hB.alloc hBS3 _).trans (o4.below hBS3)
        clear o4 gn
        generalize u3.heap.size = bk at *
        have hmo := HM.out
        have hmw := i64_wrap (n := more) (by omega) (by omega)
        refine Hid.mk ?_
        go_wp2_with fail
        go_loopg [12, 13] 16 (fun gm cv iv v => ∃ j : Nat, Hid (gm + j = 16) ∧ iv = .int .i64 (16 + (j : Int)) ∧ cv = .int .i64 (cry (fun q => key (16 + q)) more j) ∧ ArrAt v w.heap.size .u8 22 32 key ∧ ArrAt v bw .u8 23 16 (digN (markN key (txt s) s.size)) ∧ ArrAt v bz .u8 23 16 (fun j => key (16 + j)) ∧ ArrAt v bk .u8 22 32 (kpart key more j) ∧ Below w.heap.size w v)
        case atStart => exact ⟨0, Hid.mk rfl, rfl, rfl, g0, gw, gz, gq.congr (fun x _ => by unfold kpart; rw [if_neg (by omega)]), hB⟩
        case round =>
          clear g0 gw gz gq hB
          obtain ⟨j, HJ, rfl, rfl, g0, gw, gz, gq, hB⟩ := hrel
          have hj16 : j ≤ 16 := by have := HJ.out; omega
          by_cases hjl : j < 16
          · have ck := gq.cell (16 + j) (by omega)
            have fk := gq.free (16 + j)
            have hkj := HK.out (16 + j) (by omega)
            have hcj := cry_b (s := fun q => key (16 + q)) (n := 16) (fun q hq => HK.out (16 + q) (by omega)) HM.out j hj16
            have e0 : kpart key more j (16 + j) = key (16 + j) := by unfold kpart; rw [if_neg (by omega)]
            rw [e0] at ck
            have gq2 := Hid.mk (gq.set (16 + j) (dgc (fun q => key (16 + q)) more j) (by omega))
            rw [kpart_step] at gq2
            have hj32 : 16 + (j : Int) < 32 := by omega
            go_wp2_with fail
            go_roundg (16 - (j + 1))
            case rel => exact ⟨j + 1, Hid.mk (by omega), by go_num, rfl, g0.other _ (by omega), gw.other _ (by omega), gz.other _ (by omega), gq2.out, Below.setCell (p := ⟨bk, 16 + j, none⟩) hB (by show w.heap.size ≤ bk; omega) _⟩
            case measure => have := HJ.out; omega
          · have hj2 : j = 16 := by omega
            subst hj2
            replace gq := gq.congr (s' := keyMore key more) (fun x hx => kpart_end key more x hx)
            have HMM := Hid.mk (mark_more key (txt s) s.size more)
            have HKM := Hid.mk (keyMore_b HK.out more)
            generalize keyMore key more = km at *
            generalize gk = gy at *
            clear HJ hjl hj16
            go_wp2_with (first | (refine ld_arr isArr32 gq (by rfl) ?_) | (refine wl_bs1 (by rfl) ?_; intro u5 hS5 hb5 hz5; refine Hid.out ?_))
            replace g0 := g0.kept hb5
            replace gw := gw.kept hb5
            replace gz := gz.kept hb5
            replace hB := hB.trans (hb5.mono hB.size)
            clear hz5 hb5 gq
            refine Hid.mk ?_
            go_wp2_with fail
            refine (HT.out km HKM.out u5 _ hS5).mono ?_
            rintro e u6' ⟨rfl, hb6⟩
            replace g0 := g0.kept hb6
            replace gw := gw.kept hb6
            replace gz := gz.kept hb6
            replace hB := hB.trans (hb6.mono hB.size)
            clear hb6 hS5
            have gn := fun o (ho : o = Obj.cells (WA .u8 16 fun _ => 0) 23 (0, 0)) => (by rw [ho]; exact heap_alloc_new u6' _ : ArrAt (u6'.alloc o) u6'.heap.size .u8 23 16 (fun _ => 0))
            have y0 := g0.lt
            have yw := gw.lt
            have yz := gz.lt
            go_wp2_with (refine st_arr isArr16 (gn _ rfl) (by rfl) (by rfl) ?_; intro u7 gx o7; refine Hid.out ?_)
            replace g0 := (g0.alloc _).only o7 (by omega)
            replace gw := (gw.alloc _).only o7 (by omega)
            replace gz := (gz.alloc _).only o7 (by omega)
            have hBS4 := hB.size
            replace hB := (hB.alloc hBS4 _).trans (o7.below hBS4)
            replace gx := gx.congr HMM.out
            clear o7 gn HMM HKM
            generalize u6'.heap.size = bx at *
            have HMD : Hid (Dg 256 16 (digN (markN key (txt s) s.size))) := Hid.mk (fun i _ => digN_b _ i)
            generalize digN (markN key (txt s) s.size) = mm at *
            refine Hid.mk ?_
            go_wp2_with fail
            go_loopg [12, 15] 16 (fun gm cv iv v => ∃ j : Nat, Hid (gm + j = 16) ∧ iv = .int .i64 (j : Int) ∧ cv = .int .i64 (cry mm more j) ∧ ArrAt v w.heap.size .u8 22 32 key ∧ ArrAt v bw .u8 23 16 mm ∧ ArrAt v bz .u8 23 16 (fun j => key (16 + j)) ∧ ArrAt v bx .u8 23 16 (dgc mm more) ∧ Below w.heap.size w v)
            case atStart => exact ⟨0, Hid.mk rfl, rfl, rfl, g0, gw, gz, gx, hB⟩
            case round =>
              clear g0 gw gz gx hB
              obtain ⟨j, HJ, rfl, rfl, g0, gw, gz, gx, hB⟩ := hrel
              have hj16 : j ≤ 16 := by have := HJ.out; omega
              by_cases hjl : j < 16
              · have cw := gw.cell j hjl
                have cx := gx.cell j hjl
                have hmj := HMD.out j hjl
                have hcj := cry_b HMD.out HM.out j hj16
                have hdg : dgc mm more j = (cry mm more j + mm j) % 256 := rfl
                rw [hdg] at cx
                clear hdg
                go_wp2_with fail
                go_roundg (16 - (j + 1))
                case rel => exact ⟨j + 1, Hid.mk (by omega), by go_num, rfl, g0, gw, gz, gx, hB⟩
                case measure => have := HJ.out; omega
              · have hj2 : j = 16 := by omega
                subst hj2
                have HKB : Hid (Byts 16 (fun j => key (16 + j))) := Hid.mk (fun j hj => HK.out (16 + j) (by omega))
                generalize gk = gx2 at *
                clear HJ hjl hj16 gx
                go_wp2_with fail
                refine wp_gen (fun v => ArrAt v w.heap.size .u8 22 32 key ∧ ArrAt v bz .u8 23 16 (fun j => key (16 + j)) ∧ Below w.heap.size w v) ⟨g0, gz, hB⟩ ?_
                clear g0 gw gz hB
                rintro v0 ⟨g0, gz, hB⟩
                have HG0 : Hid (∀ u, Below v0.heap.size v0 u → ArrAt u w.heap.size .u8 22 32 key) := Hid.mk (fun u hu => g0.kept hu)
                have HGZ : Hid (∀ u, Below v0.heap.size v0 u → ArrAt u bz .u8 23 16 (fun j => key (16 + j))) := Hid.mk (fun u hu => gz.kept hu)
                refine wp_region3 (Below v0.heap.size v0) v0.heap.size
                    ([] : List (Nat × Cont))
                    [kv (.slice (some ⟨bz, 0, none⟩) 16 16), kv (.string (mkS 16 fun j => key (16 + j))), kv (.slice (some ⟨w.heap.size, 16, none⟩) 16 16), kv (.string (mkS 16 fun j => key (16 + j))), kv (.bool true), kv (.bool true), kv (.bool true), kv (.bool true), kv (.bool true)]
                    [.none, .none, .none, .none, .none, .none, .none, .none, .none]
                    [some 91, some 92, some 93, some 94, some 95, some 96, some 97, some 98, some 6]
                    [(10, .pointer (some ⟨bz, 0, none⟩)), (3, .pointer (some ⟨w.heap.size, 0, none⟩))]
                    [[], [.slot 0], [], [.slot 2], [.slot 1, .slot 3], [.slot 4], [.slot 5], [.slot 5, .slot 6], [.slot 7]]
                    [.slot 8] [91, 92, 93, 94, 95, 96, 97, 98, 6]
                    rfl (by kernel_rfl) ⟨rfl, rfl, trivial⟩ (Below.refl _ v0).drew (Nat.le_refl _) trivial trivial (below_G (Nat.le_refl _) trivial)
                    ⟨
                      -- 0
                      (fun Q aq ww own hS hBg fr kn => .inl ⟨trivial, fun K hK => wp_value (exec_sl rfl fr.1 (sl16z _ _)) (hK _ _ ⟨Touch.refl _ _, rfl⟩)⟩),
                      -- 1
                      (fun Q aq ww own hS hBg fr kn => .inl ⟨trivial, fun K hK => wp_value (exec_conv rfl kn.1 (str_backO bz 0 16 _ (fun j => key (16 + j)) HKB.out (fun j hj => by rw [Nat.zero_add]; exact (HGZ.out ww hS).cell j hj))) (hK _ _ ⟨Touch.refl _ _, rfl⟩)⟩),
                      -- 2
                      (fun Q aq ww own hS hBg fr kn => .inl ⟨trivial, fun K hK => wp_value (exec_slL (v := .pointer (some ⟨w.heap.size, 0, none⟩)) (u := .int .i64 16) rfl fr.2.1 rfl (sl32e w.heap.size ww)) (hK _ _ ⟨Touch.refl _ _, rfl⟩)⟩),
                      -- 3
                      (fun Q aq ww own hS hBg fr kn => .inl ⟨trivial, fun K hK => wp_value (exec_conv rfl kn.1 (str_backO w.heap.size 16 16 _ (fun j => key (16 + j)) HKB.out (fun j hj => (HG0.out ww hS).cell (16 + j) (by omega)))) (hK _ _ ⟨Touch.refl _ _, rfl⟩)⟩),
                      -- 4
                      (fun Q aq ww own hS hBg fr kn => .inl ⟨trivial, fun K hK => wp_value (exec_eqS rfl kn.1 kn.2.1) (hK _ _ ⟨Touch.refl _ _, rfl⟩)⟩),
                      -- 5
                      (fun Q aq ww own hS hBg fr kn => .inl ⟨trivial, fun K hK => wp_value (exec_move rfl kn.1) (hK _ _ ⟨Touch.refl _ _, rfl⟩)⟩),
                      -- 6
                      (fun Q aq ww own hS hBg fr kn => .inl ⟨kn.1, fun K hK => stepc enterAwake rfl args0 (awake_run ww) (fun w' hb => hK _ _ ⟨touch_below hb, rfl⟩)⟩),
                      -- 7
                      (fun Q aq ww own hS hBg fr kn => .inl ⟨trivial, fun K hK => wp_value (exec_pick rfl kn.1 kn.2.1) (hK _ _ ⟨Touch.refl _ _, rfl⟩)⟩),
                      -- 8
                      (fun Q aq ww own hS hBg fr kn => .inl ⟨trivial, fun K hK => wp_value (exec_assign rfl kn.1) (hK _ _ ⟨Touch.refl _ _, rfl⟩)⟩),
                      trivial⟩ ?_
                intro vs own v9 hB9 hs9 kn inj
                clear inj hs9
                have e6 : vs 6 = .bool true := kn.1
                clear kn
                simp only [putAll, Act.put, List.setIfInBounds_toArray, List.set_cons_zero, List.set_cons_succ]
                rw [e6]
                go_wp2_with fail
                go_ret
                exact ⟨rfl, hB.trans (hB9.mono hB.size)⟩
      · have h3 : ¬ ((i : Int) ≤ (s.size : Int)) := by omega
        have h4 : decide ((i : Int) ≤ (s.size : Int)) = false := decide_eq_false h3
        go_wp2_with fail
        refine wp_gen (fun v => ArrAt v w.heap.size .u8 22 32 key ∧ ArrAt v bw .u8 23 16 (digN (markN key (txt s) s.size)) ∧ ArrAt v bn .u8 22 32 (fun _ => 0) ∧ Below w.heap.size w v) ⟨g0.alloc _, gw.alloc _, gn _ rfl, HBA.out _⟩ ?_
        clear g0 gw hB gn HBA hc hi42
        rintro v0 ⟨g0, gw, gn, hB⟩
        refine wp_region3 (Below w.heap.size w) v0.heap.size
              [(bn, once (WA .u8 32 (fun _ => 0)) 22 2 (WA .u8 32 (over (fun _ => 0) 16 16 fun q => key (16 + q)))), (w.heap.size, fixd (WA .u8 32 key) 22), (bw, fixd (WA .u8 16 (digN (markN key (txt s) s.size))) 23)]
              [kv (.slice (some ⟨bn, 16, none⟩) 16 16), kv (.slice (some ⟨w.heap.size, 16, none⟩) 16 16), .val fun _ => True]
              [.none, .none, .base 0 1]
              [some 41, some 42, some 43]
              [(9, .pointer (some ⟨bn, 0, none⟩)), (3, .pointer (some ⟨w.heap.size, 0, none⟩))]
              [[], [], [.slot 0, .slot 1, .base 0 0, .base 1 0]]
              [.base 0 1, .base 1 0, .base 2 0] [41, 42, 43]
              rfl (by kernel_rfl) ⟨rfl, rfl, trivial⟩ (Below.drew hB) (Nat.le_refl _) ⟨⟨gn.lt, obIn gn⟩, ⟨g0.lt, obIn g0⟩, ⟨gw.lt, obIn gw⟩, trivial⟩ ⟨⟨(show (bn : Nat) ≠ w.heap.size from by omega), (show (bn : Nat) ≠ bw from by omega), trivial⟩, ⟨trivial, trivial⟩, trivial, trivial⟩ (below_G hB.size ⟨by omega, by omega, by omega, trivial⟩)
              ⟨
                -- 0
                (fun Q aq ww own hS hBg fr kn => .inl ⟨trivial, fun K hK => wp_value (exec_slL (v := .pointer (some ⟨bn, 0, none⟩)) (u := .int .i64 16) rfl fr.1 rfl (sl32e bn ww)) (hK _ _ ⟨Touch.refl _ _, rfl⟩)⟩),
                -- 1
                (fun Q aq ww own hS hBg fr kn => .inl ⟨trivial, fun K hK => wp_value (exec_slL (v := .pointer (some ⟨w.heap.size, 0, none⟩)) (u := .int .i64 16) rfl fr.2.1 rfl (sl32e w.heap.size ww)) (hK _ _ ⟨Touch.refl _ _, rfl⟩)⟩),
                -- 2
                (fun Q aq ww own hS hBg fr kn => .inl ⟨trivial, fun K hK => act_copy rfl kn.1 kn.2.1 (obAt kn.2.2.1) (m := 16) rfl (by omega) (r := fun q => key (16 + q)) (fun q hq => ArrAt.cell (obAt kn.2.2.2.1) (16 + q) (by omega)) (fun w2 hg ho => hK _ _ ⟨⟨touch_only ho, obIn hg⟩, trivial⟩)⟩),
                trivial⟩ ?_
        intro vs own v1 hB1 hs1 kn inj
        clear inj hs1 g0 gw gn hB
        have gn : ArrAt v1 bn .u8 22 32 (over (fun _ => 0) 16 16 fun q => key (16 + q)) := obAt kn.1
        have g0 : ArrAt v1 w.heap.size .u8 22 32 key := obAt kn.2.1
        have gw : ArrAt v1 bw .u8 23 16 (digN (markN key (txt s) s.size)) := obAt kn.2.2.1
        have hB := hB1
        clear kn hB1
        simp only [putAll, Act.put, List.setIfInBounds_toArray, List.set_cons_zero, List.set_cons_succ]
        have HZ : Hid (Byts 32 (over (fun _ => 0) 16 16 fun q => key (16 + q)) ∧ ∀ i, i < 16 → digN (markN (over (fun _ => 0) 16 16 fun q => key (16 + q)) (txt s) s.size) i = key (16 + i)) := Hid.mk (zk_facts HK.out (txt s) s.size)
        generalize (over (fun _ => 0) 16 16 fun q => key (16 + q)) = zk at *
        go_wp2_with (first | (refine ld_arr isArr32 gn (by rfl) ?_) | (refine wl_bs1 (by rfl) ?_; intro u1 hS1 hb1 hz1; refine Hid.out ?_))
        replace g0 := g0.kept hb1
        replace gw := gw.kept hb1
        replace hB := hB.trans (hb1.mono hB.size)
        clear hz1 hb1 gn
        refine Hid.mk ?_
        go_wp2_with fail
        refine (HT.out zk HZ.out.1 u1 _ hS1).mono ?_
        rintro e u2 ⟨rfl, hb2⟩
        replace g0 := g0.kept hb2
        replace gw := gw.kept hb2
        replace hB := hB.trans (hb2.mono hB.size)
        clear hb2 hS1
        have gn := fun o (ho : o = Obj.cells (WA .u8 16 fun _ => 0) 23 (0, 0)) => (by rw [ho]; exact heap_alloc_new u2 _ : ArrAt (u2.alloc o) u2.heap.size .u8 23 16 (fun _ => 0))
        have hz2 := gw.lt
        have hz3 := g0.lt
        go_wp2_with (refine st_arr isArr16 (gn _ rfl) (by rfl) (by rfl) ?_; intro u3 gz o3; refine Hid.out ?_)
        replace g0 := (g0.alloc _).only o3 (by omega)
        replace gw := (gw.alloc _).only o3 (by omega)
        have hBS2 := hB.size
        replace hB := (hB.alloc hBS2 _).trans (o3.below hBS2)
        replace gz := gz.congr HZ.out.2
        clear o3 gn HZ
        generalize u2.heap.size = bz at *
        have gn := fun o (ho : o = Obj.cells (WA .u8 32 fun _ => 0) 22 (0, 0)) => (by rw [ho]; exact heap_alloc_new u3 _ : ArrAt (u3.alloc o) u3.heap.size .u8 22 32 (fun _ => 0))
        have hz4 := gz.lt
        refine Hid.mk ?_
        go_wp2_with (first | (refine ld_arr isArr32 g0 (by rfl) ?_) | (refine st_arr isArr32 (gn _ rfl) (by rfl) (by rfl) ?_; intro u4 gq o4; refine Hid.out ?_))
        replace g0 := (g0.alloc _).only o4 (by omega)
        replace gw := (gw.alloc _).only o4 (by omega)
        replace gz := (gz.alloc _).only o4 (by omega)
        have hBS3 := hB.size
        replace hB := (hB.alloc hBS3 _).trans (o4.below hBS3)
        clear o4 gn
        generalize u3.heap.size = bk at *
        have hmo := HM.out
        have hmw := i64_wrap (n := more) (by omega) (by omega)
        refine Hid.mk ?_
        go_wp2_with fail
        go_loopg [12, 13] 16 (fun gm cv iv v => ∃ j : Nat, Hid (gm + j = 16) ∧ iv = .int .i64 (16 + (j : Int)) ∧ cv = .int .i64 (cry (fun q => key (16 + q)) more j) ∧ ArrAt v w.heap.size .u8 22 32 key ∧ ArrAt v bw .u8 23 16 (digN (markN key (txt s) s.size)) ∧ ArrAt v bz .u8 23 16 (fun j => key (16 + j)) ∧ ArrAt v bk .u8 22 32 (kpart key more j) ∧ Below w.heap.size w v)
        case atStart => exact ⟨0, Hid.mk rfl, rfl, rfl, g0, gw, gz, gq.congr (fun x _ => by unfold kpart; rw [if_neg (by omega)]), hB⟩
        case round =>
          clear g0 gw gz gq hB
          obtain ⟨j, HJ, rfl, rfl, g0, gw, gz, gq, hB⟩ := hrel
          have hj16 : j ≤ 16 := by have := HJ.out; omega
          by_cases hjl : j < 16
          · have ck := gq.cell (16 + j) (by omega)
            have fk := gq.free (16 + j)
            have hkj := HK.out (16 + j) (by omega)
            have hcj := cry_b (s := fun q => key (16 + q)) (n := 16) (fun q hq => HK.out (16 + q) (by omega)) HM.out j hj16
            have e0 : kpart key more j (16 + j) = key (16 + j) := by unfold kpart; rw [if_neg (by omega)]
            rw [e0] at ck
            have gq2 := Hid.mk (gq.set (16 + j) (dgc (fun q => key (16 + q)) more j) (by omega))
            rw [kpart_step] at gq2
            have hj32 : 16 + (j : Int) < 32 := by omega
            go_wp2_with fail
            go_roundg (16 - (j + 1))
            case rel => exact ⟨j + 1, Hid.mk (by omega), by go_num, rfl, g0.other _ (by omega), gw.other _ (by omega), gz.other _ (by omega), gq2.out, Below.setCell (p := ⟨bk, 16 + j, none⟩) hB (by show w.heap.size ≤ bk; omega) _⟩
            case measure => have := HJ.out; omega
          · have hj2 : j = 16 := by omega
            subst hj2
            replace gq := gq.congr (s' := keyMore key more) (fun x hx => kpart_end key more x hx)
            have HMM := Hid.mk (mark_more key (txt s) s.size more)
            have HKM := Hid.mk (keyMore_b HK.out more)
            generalize keyMore key more = km at *
            generalize gk = gy at *
            clear HJ hjl hj16
            go_wp2_with (first | (refine ld_arr isArr32 gq (by rfl) ?_) | (refine wl_bs1 (by rfl) ?_; intro u5 hS5 hb5 hz5; refine Hid.out ?_))
            replace g0 := g0.kept hb5
            replace gw := gw.kept hb5
            replace gz := gz.kept hb5
            replace hB := hB.trans (hb5.mono hB.size)
            clear hz5 hb5 gq
            refine Hid.mk ?_
            go_wp2_with fail
            refine (HT.out km HKM.out u5 _ hS5).mono ?_
            rintro e u6' ⟨rfl, hb6⟩
            replace g0 := g0.kept hb6
            replace gw := gw.kept hb6
            replace gz := gz.kept hb6
            replace hB := hB.trans (hb6.mono hB.size)
            clear hb6 hS5
            have gn := fun o (ho : o = Obj.cells (WA .u8 16 fun _ => 0) 23 (0, 0)) => (by rw [ho]; exact heap_alloc_new u6' _ : ArrAt (u6'.alloc o) u6'.heap.size .u8 23 16 (fun _ => 0))
            have y0 := g0.lt
            have yw := gw.lt
            have yz := gz.lt
            go_wp2_with (refine st_arr isArr16 (gn _ rfl) (by rfl) (by rfl) ?_; intro u7 gx o7; refine Hid.out ?_)
            replace g0 := (g0.alloc _).only o7 (by omega)
            replace gw := (gw.alloc _).only o7 (by omega)
            replace gz := (gz.alloc _).only o7 (by omega)
            have hBS4 := hB.size
            replace hB := (hB.alloc hBS4 _).trans (o7.below hBS4)
            replace gx := gx.congr HMM.out
            clear o7 gn HMM HKM
            generalize u6'.heap.size = bx at *
            have HMD : Hid (Dg 256 16 (digN (markN key (txt s) s.size))) := Hid.mk (fun i _ => digN_b _ i)
            generalize digN (markN key (txt s) s.size) = mm at *
            refine Hid.mk ?_
            go_wp2_with fail
            go_loopg [12, 15] 16 (fun gm cv iv v => ∃ j : Nat, Hid (gm + j = 16) ∧ iv = .int .i64 (j : Int) ∧ cv = .int .i64 (cry mm more j) ∧ ArrAt v w.heap.size .u8 22 32 key ∧ ArrAt v bw .u8 23 16 mm ∧ ArrAt v bz .u8 23 16 (fun j => key (16 + j)) ∧ ArrAt v bx .u8 23 16 (dgc mm more) ∧ Below w.heap.size w v)
            case atStart => exact ⟨0, Hid.mk rfl, rfl, rfl, g0, gw, gz, gx, hB⟩
            case round =>
              clear g0 gw gz gx hB
              obtain ⟨j, HJ, rfl, rfl, g0, gw, gz, gx, hB⟩ := hrel
              have hj16 : j ≤ 16 := by have := HJ.out; omega
              by_cases hjl : j < 16
              · have cw := gw.cell j hjl
                have cx := gx.cell j hjl
                have hmj := HMD.out j hjl
                have hcj := cry_b HMD.out HM.out j hj16
                have hdg : dgc mm more j = (cry mm more j + mm j) % 256 := rfl
                rw [hdg] at cx
                clear hdg
                go_wp2_with fail
                go_roundg (16 - (j + 1))
                case rel => exact ⟨j + 1, Hid.mk (by omega), by go_num, rfl, g0, gw, gz, gx, hB⟩
                case measure => have := HJ.out; omega
              · have hj2 : j = 16 := by omega
                subst hj2
                have HKB : Hid (Byts 16 (fun j => key (16 + j))) := Hid.mk (fun j hj => HK.out (16 + j) (by omega))
                generalize gk = gx2 at *
                clear HJ hjl hj16 gx
                go_wp2_with fail
                refine wp_gen (fun v => ArrAt v w.heap.size .u8 22 32 key ∧ ArrAt v bz .u8 23 16 (fun j => key (16 + j)) ∧ Below w.heap.size w v) ⟨g0, gz, hB⟩ ?_
                clear g0 gw gz hB
                rintro v0 ⟨g0, gz, hB⟩
                have HG0 : Hid (∀ u, Below v0.heap.size v0 u → ArrAt u w.heap.size .u8 22 32 key) := Hid.mk (fun u hu => g0.kept hu)
                have HGZ : Hid (∀ u, Below v0.heap.size v0 u → ArrAt u bz .u8 23 16 (fun j => key (16 + j))) := Hid.mk (fun u hu => gz.kept hu)
                refine wp_region3 (Below v0.heap.size v0) v0.heap.size
                    ([] : List (Nat × Cont))
                    [kv (.slice (some ⟨bz, 0, none⟩) 16 16), kv (.string (mkS 16 fun j => key (16 + j))), kv (.slice (some ⟨w.heap.size, 16, none⟩) 16 16), kv (.string (mkS 16 fun j => key (16 + j))), kv (.bool true), kv (.bool true), kv (.bool true), kv (.bool true), kv (.bool true)]
                    [.none, .none, .none, .none, .none, .none, .none, .none, .none]
                    [some 91, some 92, some 93, some 94, some 95, some 96, some 97, some 98, some 6]
                    [(10, .pointer (some ⟨bz, 0, none⟩)), (3, .pointer (some ⟨w.heap.size, 0, none⟩))]
                    [[], [.slot 0], [], [.slot 2], [.slot 1, .slot 3], [.slot 4], [.slot 5], [.slot 5, .slot 6], [.slot 7]]
                    [.slot 8] [91, 92, 93, 94, 95, 96, 97, 98, 6]
                    rfl (by kernel_rfl) ⟨rfl, rfl, trivial⟩ (Below.refl _ v0).drew (Nat.le_refl _) trivial trivial (below_G (Nat.le_refl _) trivial)
                    ⟨
                      -- 0
                      (fun Q aq ww own hS hBg fr kn => .inl ⟨trivial, fun K hK => wp_value (exec_sl rfl fr.1 (sl16z _ _)) (hK _ _ ⟨Touch.refl _ _, rfl⟩)⟩),
                      -- 1
                      (fun Q aq ww own hS hBg fr kn => .inl ⟨trivial, fun K hK => wp_value (exec_conv rfl kn.1 (str_backO bz 0 16 _ (fun j => key (16 + j)) HKB.out (fun j hj => by rw [Nat.zero_add]; exact (HGZ.out ww hS).cell j hj))) (hK _ _ ⟨Touch.refl _ _, rfl⟩)⟩),
                      -- 2
                      (fun Q aq ww own hS hBg fr kn => .inl ⟨trivial, fun K hK => wp_value (exec_slL (v := .pointer (some ⟨w.heap.size, 0, none⟩)) (u := .int .i64 16) rfl fr.2.1 rfl (sl32e w.heap.size ww)) (hK _ _ ⟨Touch.refl _ _, rfl⟩)⟩),
                      -- 3
                      (fun Q aq ww own hS hBg fr kn => .inl ⟨trivial, fun K hK => wp_value (exec_conv rfl kn.1 (str_backO w.heap.size 16 16 _ (fun j => key (16 + j)) HKB.out (fun j hj => (HG0.out ww hS).cell (16 + j) (by omega)))) (hK _ _ ⟨Touch.refl _ _, rfl⟩)⟩),
                      -- 4
                      (fun Q aq ww own hS hBg fr kn => .inl ⟨trivial, fun K hK => wp_value (exec_eqS rfl kn.1 kn.2.1) (hK _ _ ⟨Touch.refl _ _, rfl⟩)⟩),
                      -- 5
                      (fun Q aq ww own hS hBg fr kn => .inl ⟨trivial, fun K hK => wp_value (exec_move rfl kn.1) (hK _ _ ⟨Touch.refl _ _, rfl⟩)⟩),
                      -- 6
                      (fun Q aq ww own hS hBg fr kn => .inl ⟨kn.1, fun K hK => stepc enterAwake rfl args0 (awake_run ww) (fun w' hb => hK _ _ ⟨touch_below hb, rfl⟩)⟩),
                      -- 7
                      (fun Q aq ww own hS hBg fr kn => .inl ⟨trivial, fun K hK => wp_value (exec_pick rfl kn.1 kn.2.1) (hK _ _ ⟨Touch.refl _ _, rfl⟩)⟩),
                      -- 8
                      (fun Q aq ww own hS hBg fr kn => .inl ⟨trivial, fun K hK => wp_value (exec_assign rfl kn.1) (hK _ _ ⟨Touch.refl _ _, rfl⟩)⟩),
                      trivial⟩ ?_
                intro vs own v9 hB9 hs9 kn inj
                clear inj hs9
                have e6 : vs 6 = .bool true := kn.1
                clear kn
                simp only [putAll, Act.put, List.setIfInBounds_toArray, List.set_cons_zero, List.set_cons_succ]
                rw [e6]
                go_wp2_with fail
                go_ret
                exact ⟨rfl, hB.trans (hB9.mono hB.size)⟩
end Go.Proofs.Ytfbeclleeehaaaa
