/-
  Own text. What Block of the document's answer gives: the block of package chacha's square.
-/
import Derived.Test.YthghcjepdhkfdaaGreatDoorJK5
import Derived.Shelf.Strings.Builder1
import Derived.Shelf.Strings.Builder2
import Derived.Test.YthghcjepdhkfdaaGreatDoorProg
import Derived.Laws.IdiomStrings
import Derived.Laws.AppendOwnNone
import Derived.Test.YthghcjepdhkfdaaGreatDoorJK1
set_option maxHeartbeats 16000000
set_option maxRecDepth 100000
namespace Go.Proofs.YthghcjepdhkfdaaGreatDoor
open Go.RowKit Go.Proofs
def inB (c:Int) (nonce:Nat→Int):Nat→Int:=over (over (fun _=>0) 0 4 (b4 c)) 4 12 nonce
theorem b4_byts (v:Int):∀ i,0≤b4 v i∧b4 v i<256:=fun i=>by
 unfold b4
 split
 ·omega
 split
 ·omega
 split<;>omega
theorem inB_byts {c:Int} {nonce:Nat→Int} (hn:Byts 12 nonce):Byts 16 (inB c nonce):=fun i hi=>by
 unfold inB over
 split
 ·exact hn _ (by omega)
 split
 ·exact b4_byts _ _
 ·simp
theorem wrd_congr {s t:Nat→Int} {i j:Nat} (h:∀ q,q<4→s (4*i+q)=t (4*j+q)):wrd s i=wrd t j:=by
 unfold wrd
 rw[show s (4*i)=t (4*j) from h 0 (by omega),h 1 (by omega),h 2 (by omega),h 3 (by omega)]
theorem wrd_b4 {c:Int} (hc:W32 c):wrd (b4 c) 0=c:=by
 unfold W32 at hc
 simp[wrd,b4]
 omega
theorem rsq_low (key inn:Nat→Int) (i:Nat) (h:i<12):rsq key inn i=ksq key 12 i:=by
 unfold rsq ksq allB
 rw[if_pos h]
 split
 ·exact wrd_congr (fun q hq=>by unfold cat;rw[if_pos (by omega),if_pos (by omega)])
 ·refine wrd_congr (fun q hq=>?_)
  unfold cat
  rw[if_pos (by omega),if_neg (by omega)]
  congr 1
  omega
theorem rsq_high (key inn:Nat→Int) (i:Nat) (h:12≤i):rsq key inn i=wrd inn (i-12):=by
 unfold rsq allB
 refine wrd_congr (fun q hq=>?_)
 unfold cat
 rw[if_neg (by omega)]
 congr 1
 omega
theorem rsq_ssq (key nonce:Nat→Int) (c:Int) (hc:W32 c):∀ i,i<16→rsq key (inB c nonce) i=ssq key c nonce 3 i:=fun i hi=>by
 unfold ssq
 by_cases h:i<12
 ·rw[rsq_low _ _ _ h,if_neg (by omega),if_neg (by omega)]
 ·rw[rsq_high _ _ _ (by omega)]
  by_cases h12:i=12
  ·subst h12
   rw[if_pos rfl]
   refine Eq.trans (wrd_congr (fun q hq=>?_)) (wrd_b4 hc)
   unfold inB over
   rw[if_neg (by omega),if_pos (by omega)]
   congr 1
  ·rw[if_neg h12,if_pos (by omega)]
   refine wrd_congr (fun q hq=>?_)
   unfold inB over
   rw[if_pos (by omega)]
   congr 1
   omega
theorem rsq_w {key inn:Nat→Int} (hk:Byts 32 key) (hi:Byts 16 inn):∀ i,i<16→W32 (rsq key inn i):=fun i h=>wrd_w (allB_byts hk hi) (by omega)
theorem qrow_congr {s t:Nat→Int} (h:∀ i,i<16→s i=t i) {a b c d:Nat} (ha:a<16) (hb:b<16) (hc:c<16) (hd:d<16):∀ i,i<16→qrow s a b c d i=qrow t a b c d i:=fun i hi=>by
 unfold qrow upd
 rw[h a ha,h b hb,h c hc,h d hd,h i hi]
theorem dbl_congr {s t:Nat→Int} (h:∀ i,i<16→s i=t i):∀ i,i<16→dbl s i=dbl t i :=
 qrow_congr (qrow_congr (qrow_congr (qrow_congr (qrow_congr (qrow_congr (qrow_congr (qrow_congr h (by decide) (by decide) (by decide) (by decide)) (by decide) (by decide) (by decide) (by decide)) (by decide) (by decide) (by decide) (by decide)) (by decide) (by decide) (by decide) (by decide)) (by decide) (by decide) (by decide) (by decide)) (by decide) (by decide) (by decide) (by decide)) (by decide) (by decide) (by decide) (by decide)) (by decide) (by decide) (by decide) (by decide)
theorem rnds_congr {s t:Nat→Int} (h:∀ i,i<16→s i=t i):∀ k i,i<16→rnds s k i=rnds t k i
 | 0=>h
 | k+1=>dbl_congr (rnds_congr h k)
theorem blk_congr {s t:Nat→Int} (h:∀ i,i<16→s i=t i):blk s=blk t:=pw_congr (fun i hi=>by unfold bsum;rw[rnds_congr h 10 i hi,h i hi])
theorem rBlock_run (key nonce:Nat→Int) (c:Int) (w:World) (hk:Byts 32 key) (hn:Byts 12 nonce) (hc:W32 c) :
  Calls Tryz.prog 161 #[.agg (WA .u8 32 key),.int .u32 c,.agg (WA .u8 12 nonce)] w fun e w'=>e=.returned (.agg (WA .u8 64 (blk (ssq key c nonce 3))))∧Below w.heap.size w w':=by
 have HP:Hid (blk (ssq key c nonce 3)=pw (bsum (rsq key (inB c nonce))) 16):=Hid.mk (blk_congr (fun i hi=>(rsq_ssq key nonce c hc i hi).symm))
 rw[HP.out]
 clear HP
 have hI:=inB_byts (c:=c) hn
 have hW:=rsq_w hk hI
 have hS:=fun w=>rsquare_run key (inB c nonce) w hk hI
 generalize rsq key (inB c nonce)=s at *
 go_enter Tryz.func161,Tryz.ntmps161
 go_wp2_with fail
 have g0:ArrAt ((((w.alloc (.cells (WA .u8 32 key) 22)).alloc (.cells (WA .u8 12 nonce) 26)).alloc (.cells (WA .u8 64 fun _=>0) 183)).alloc (.cells (WA .u8 16 fun _=>0) 54)) w.heap.size .u8 22 32 key:=ArrAt.alloc (heap_a31 w _ _ _) _
 have g1:ArrAt ((((w.alloc (.cells (WA .u8 32 key) 22)).alloc (.cells (WA .u8 12 nonce) 26)).alloc (.cells (WA .u8 64 fun _=>0) 183)).alloc (.cells (WA .u8 16 fun _=>0) 54)) (w.heap.size+1) .u8 26 12 nonce:=ArrAt.alloc (heap_a32 w _ _ _) _
 have g2:ArrAt ((((w.alloc (.cells (WA .u8 32 key) 22)).alloc (.cells (WA .u8 12 nonce) 26)).alloc (.cells (WA .u8 64 fun _=>0) 183)).alloc (.cells (WA .u8 16 fun _=>0) 54)) (w.heap.size+1+1) .u8 183 64 (fun _=>0):=ArrAt.alloc (heap_a3 w _ _ _) _
 have g3:ArrAt ((((w.alloc (.cells (WA .u8 32 key) 22)).alloc (.cells (WA .u8 12 nonce) 26)).alloc (.cells (WA .u8 64 fun _=>0) 183)).alloc (.cells (WA .u8 16 fun _=>0) 54)) (w.heap.size+1+1+1) .u8 54 16 (fun _=>0):=heap_a4 w _ _ _ _
 have hB:Below w.heap.size w ((((w.alloc (.cells (WA .u8 32 key) 22)).alloc (.cells (WA .u8 12 nonce) 26)).alloc (.cells (WA .u8 64 fun _=>0) 183)).alloc (.cells (WA .u8 16 fun _=>0) 54)):=((((Below.refl _ w).alloc (by simp) _).alloc (by simp) _).alloc (by simp;omega) _).alloc (by simp;omega) _
 refine wp_gen (fun v=>ArrAt v w.heap.size .u8 22 32 key∧ArrAt v (w.heap.size+1) .u8 26 12 nonce∧ArrAt v (w.heap.size+1+1) .u8 183 64 (fun _=>0)∧ArrAt v (w.heap.size+1+1+1) .u8 54 16 (fun _=>0)∧Below w.heap.size w v) ⟨g0,g1,g2,g3,hB⟩ ?_
 clear g0 g1 g2 g3 hB
 rintro v0 ⟨g0,g1,g2,g3,hB⟩
 refine wp_region3 (Below w.heap.size w) v0.heap.size
  [(w.heap.size,fixd (WA .u8 32 key) 22),((w.heap.size+1),fixd (WA .u8 12 nonce) 26),((w.heap.size+1+1),fixd (WA .u8 64 (fun _=>0)) 183),((w.heap.size+1+1+1),once (WA .u8 16 (fun _=>0)) 54 4 (WA .u8 16 (over (fun _=>0) 0 4 (b4 c))))]
  [kv (.slice (some ⟨(w.heap.size+1+1+1),0,none⟩) 16 16),kv (.int .u32 c),kv (.int .i64 c),ks 4 (WA .u8 4 (b4 (c))) 5,.val fun _=>True]
  [.none,.none,.none,.none,.base 3 1]
  [some 12,some 13,some 14,some 15,some 16]
  [(1,.int .u32 c),(7,.pointer (some ⟨(w.heap.size+1+1+1),0,none⟩))]
  [[],[],[.slot 1],[.slot 2],[.slot 0,.slot 3,.cont 3 0,.base 3 0]]
  [.base 0 0,.base 1 0,.base 2 0,.base 3 1] [12,13,14,15,16]
  rfl (by kernel_rfl) ⟨rfl,rfl,trivial⟩ (Below.drew hB) (Nat.le_refl _) ⟨⟨g0.lt,obIn g0⟩,⟨g1.lt,obIn g1⟩,⟨g2.lt,obIn g2⟩,⟨g3.lt,obIn g3⟩,trivial⟩ ⟨⟨trivial,trivial,(show (w.heap.size:Nat)≠(w.heap.size+1+1+1) from by omega),trivial⟩,⟨trivial,(show ((w.heap.size+1):Nat)≠(w.heap.size+1+1+1) from by omega),trivial⟩,⟨(show ((w.heap.size+1+1):Nat)≠(w.heap.size+1+1+1) from by omega),trivial⟩,trivial,trivial⟩ (below_G hB.size ⟨by omega,by omega,by omega,by omega,trivial⟩)
  ⟨
   (fun _ _ _ _ _ _ fr _=>sV (exec_sl rfl fr.2.1 (sl16 _ _))),
   (fun _ _ _ _ _ _ fr _=>sV (exec_move rfl fr.1)),
   (fun _ _ _ _ _ _ _ kn=>sV (exec_conv rfl kn.1 (conv32 hc _))),
   (fun _ _ ww _ _ _ _ kn=>.inl ⟨trivial,fun K hK=>stepp enterBytes rfl (args1 kn.1) ((rbytes_run (c) ww hc).mono (fun e w' ⟨he,h1,h2⟩=>⟨_,he,rfl,h1,h2⟩)) (R:=fun u w'=>u=.slice (some ⟨ww.heap.size,0,none⟩) 4 4∧ArrAt w' ww.heap.size .u8 5 4 (b4 (c))∧Below ww.heap.size ww w') (fun v w' ⟨hv,h1,h2⟩=>hK _ _ ⟨touch_below h2,ww.heap.size,Nat.le_refl _,hv,obIn h1⟩)⟩),
   (fun _ _ _ _ _ _ _ kn=>.inl ⟨trivial,fun K hK=>act_copy rfl kn.1 kn.2.1.1 (obAt kn.2.2.2.1) (m:=4) rfl (by omega) (fun q hq=>by rw[Nat.zero_add];exact ArrAt.cell (obAt kn.2.2.1) q hq) (fun w2 hg ho=>hK _ _ ⟨⟨touch_only ho,obIn (hg)⟩,trivial⟩)⟩),
   trivial⟩ ?_
 intro vs own v1 hB1 hs1 kn inj
 clear inj hs1 g0 g1 g2 g3 hB
 have g0:=obAt kn.1
 have g1:=obAt kn.2.1
 have g2:=obAt kn.2.2.1
 have g3:=obAt kn.2.2.2.1
 clear kn
 simp only[putAll,Act.put,List.setIfInBounds_toArray,List.set_cons_zero,List.set_cons_succ]
 go_wp2_with fail
 refine wp_region3 (Below w.heap.size w) v1.heap.size
  [(w.heap.size,fixd (WA .u8 32 key) 22),((w.heap.size+1),fixd (WA .u8 12 nonce) 26),((w.heap.size+1+1),fixd (WA .u8 64 (fun _=>0)) 183),((w.heap.size+1+1+1),once (WA .u8 16 (over (fun _=>0) 0 4 (b4 c))) 54 2 (WA .u8 16 (inB c nonce)))]
  [kv (.slice (some ⟨(w.heap.size+1+1+1),4,none⟩) 12 12),kv (.slice (some ⟨(w.heap.size+1),0,none⟩) 12 12),.val fun _=>True]
  [.none,.none,.base 3 1]
  [some 17,some 18,some 19]
  [(5,.pointer (some ⟨(w.heap.size+1),0,none⟩)),(7,.pointer (some ⟨(w.heap.size+1+1+1),0,none⟩))]
  [[],[],[.slot 0,.slot 1,.base 3 0,.base 1 0]]
  [.base 0 0,.base 2 0,.base 3 1] [17,18,19]
  rfl (by kernel_rfl) ⟨rfl,rfl,trivial⟩ (Below.drew hB1) (Nat.le_refl _) ⟨⟨heap_lt g0,obIn g0⟩,⟨heap_lt g1,obIn g1⟩,⟨heap_lt g2,obIn g2⟩,⟨heap_lt g3,obIn g3⟩,trivial⟩ ⟨⟨trivial,trivial,(show (w.heap.size:Nat)≠(w.heap.size+1+1+1) from by omega),trivial⟩,⟨trivial,(show ((w.heap.size+1):Nat)≠(w.heap.size+1+1+1) from by omega),trivial⟩,⟨(show ((w.heap.size+1+1):Nat)≠(w.heap.size+1+1+1) from by omega),trivial⟩,trivial,trivial⟩ (below_G hB1.size ⟨by omega,by omega,by omega,by omega,trivial⟩)
  ⟨
   (fun _ _ _ _ _ _ fr _=>sV (exec_slL rfl fr.2.1 rfl (sl16L _ _))),
   (fun _ _ _ _ _ _ fr _=>sV (exec_sl rfl fr.1 (sl12 _ _))),
   (fun _ _ _ _ _ _ _ kn=>.inl ⟨trivial,fun K hK=>act_copy rfl kn.1 kn.2.1 (obAt kn.2.2.1) (m:=12) rfl (by omega) (fun q hq=>by rw[Nat.zero_add];exact ArrAt.cell (obAt kn.2.2.2.1) q hq) (fun w2 hg ho=>hK _ _ ⟨⟨touch_only ho,obIn hg⟩,trivial⟩)⟩),
   trivial⟩ ?_
 intro vs2 own2 v2 hB2 hs2 kn inj
 clear inj hs2 g0 g1 g2 g3 hB1
 have g0:ArrAt v2 w.heap.size .u8 22 32 key:=obAt kn.1
 have g2:ArrAt v2 (w.heap.size+1+1) .u8 183 64 (fun _=>0):=obAt kn.2.1
 have g3:ArrAt v2 (w.heap.size+1+1+1) .u8 54 16 (inB c nonce):=obAt kn.2.2.1
 clear kn
 simp only[putAll,Act.put,List.setIfInBounds_toArray,List.set_cons_zero,List.set_cons_succ]
 go_wp2_with (first|(refine ld_arr isArr32 g0 (by rfl) ?_)|(refine ld_arr isArr16 g3 (by rfl) ?_))
 refine (hS _).mono ?_
 rintro e v3 ⟨bs,cs,rfl,hcs,hbs,rs,hb3⟩
 have hz2:=g2.lt
 replace g2:=g2.kept hb3
 replace hB2:=hB2.trans (hb3.mono hB2.size)
 have hz3:w.heap.size+1+1<bs:=by omega
 clear g0 g3 hb3 hS hI
 go_wp2_with fail
 refine (twenty_run s bs cs _ rs hW).mono ?_
 rintro e v4 ⟨bt,ct,rfl,hct,hbt,rt,hb4⟩
 replace g2:=g2.kept hb4
 have hz4:bs<bt:=Nat.lt_of_lt_of_le rs.lt hbt
 replace rs:=rs.below hb4 rs.lt
 replace hB2:=hB2.trans (hb4.mono hB2.size)
 clear hb4
 have HE:Hid (∀ i,addw (s i) (rnds s 10 i)=bsum s i):=Hid.mk (fun i=>by unfold bsum addw;rw[Int.add_comm])
 have W1:=rnds_w hW 10
 generalize rnds s 10=t at *
 go_wp2_with fail
 have hz5:=rt.lt
 go_loopg [11] 16 (fun m i v=>∃ k:Nat,Hid (m+k=16)∧i=.int .i64 k∧ArrAt v (w.heap.size+1+1) .u8 183 64 (fun _=>0)∧RowAt v bs .i64 3 16 s∧RowAt v bt .i64 3 16 t∧ArrAt v v4.heap.size .u8 183 64 (pw (bsum s) k)∧Below w.heap.size w v)
 case atStart=>exact ⟨0,Hid.mk rfl,rfl,g2.alloc _,rs.alloc _,rt.alloc _,heap_alloc_new v4 _,hB2.alloc hB2.size _⟩
 case round =>
  clear g2 rs rt hB2
  obtain ⟨k,HK,rfl,g2,rs,rt,g4,hB⟩:=hrel
  generalize v4.heap.size=B4 at *
  have hk16:k≤16:=by have:=HK.out;omega
  by_cases hlt:k<16
  ·go_wp2_with fail
   refine wp_region3 (Below w.heap.size w) wr.heap.size
    [((w.heap.size+1+1),fixd (WA .u8 64 (fun _=>0)) 183),(bs,⟨rowOb .i64 3 16 s,[]⟩),(bt,⟨rowOb .i64 3 16 t,[]⟩),(B4,once (WA .u8 64 (pw (bsum s) k)) 183 14 (WA .u8 64 (pw (bsum s) (k+1))))]
    [kv (.int .i64 (k:Int)),kv (.int .i64 (4*(k:Int))),kv (.slice (some ⟨B4,4*k,none⟩) (64-4*k) (64-4*k)),kv (.slice (some ⟨bs,0,none⟩) 16 cs),kv (.int .i64 (k:Int)),kv (.pointer (some ⟨bs,0+k,none⟩)),kv (.int .i64 (s k)),kv (.slice (some ⟨bt,0,none⟩) 16 ct),kv (.int .i64 (k:Int)),kv (.pointer (some ⟨bt,0+k,none⟩)),kv (.int .i64 (t k)),kv (.int .i64 (s k+t k)),kv (.int .i64 (bsum s k)),ks 4 (WA .u8 4 (b4 (bsum s k))) 5,.val fun _=>True]
    [.none,.none,.none,.none,.none,.none,.none,.none,.none,.none,.none,.none,.none,.none,.base 3 1]
    [some 29,some 30,some 31,some 32,some 33,some 34,some 35,some 36,some 37,some 38,some 39,some 40,some 41,some 42,some 43]
    [(8,.slice (some ⟨bs,0,none⟩) 16 cs),(9,.slice (some ⟨bt,0,none⟩) 16 ct),(10,.pointer (some ⟨B4,0,none⟩)),(11,.int .i64 (k:Int))]
    [[],[.slot 0],[.slot 1],[],[],[.slot 3,.slot 4],[.slot 5,.base 1 0],[],[],[.slot 7,.slot 8],[.slot 9,.base 2 0],[.slot 6,.slot 10],[.slot 11],[.slot 12],[.slot 2,.slot 13,.cont 13 0,.base 3 0]]
    [.base 0 0,.base 1 0,.base 2 0,.base 3 1] [29,30,31,32,33,34,35,36,37,38,39,40,41,42,43]
    rfl (by kernel_rfl) ⟨rfl,rfl,rfl,rfl,trivial⟩ (Below.drew hB) (Nat.le_refl _) ⟨⟨g2.lt,obIn g2⟩,⟨rs.lt,rs⟩,⟨rt.lt,rt⟩,⟨g4.lt,obIn g4⟩,trivial⟩ ⟨⟨trivial,trivial,(show ((w.heap.size+1+1):Nat)≠B4 from by omega),trivial⟩,⟨trivial,(show (bs:Nat)≠B4 from by omega),trivial⟩,⟨(show (bt:Nat)≠B4 from by omega),trivial⟩,trivial,trivial⟩ (below_G hB.size ⟨by omega,by omega,by omega,by omega,trivial⟩)
    ⟨
     (fun _ _ _ _ _ _ fr _=>sV (exec_move rfl fr.2.2.2.1)),
     (fun _ _ _ _ _ _ _ kn=>sV (exec_mul rfl rfl kn.1 (by omega) (by omega))),
     (fun _ _ _ _ _ _ fr kn=>sV (exec_slL rfl fr.2.2.1 kn.1 (sl64L _ _ _ hlt))),
     (fun _ _ _ _ _ _ fr _=>sV (exec_move rfl fr.1)),
     (fun _ _ _ _ _ _ fr _=>sV (exec_move rfl fr.2.2.2.1)),
     (fun _ _ _ _ _ _ _ kn=>sV (exec_idx rfl Tryz.underlying171 size_int kn.1 kn.2.1 hlt)),
     (fun _ _ _ _ _ _ _ kn=>sV (exec_ld rfl kn.1 (load_int (cell0 kn.2.1 hlt)))),
     (fun _ _ _ _ _ _ fr _=>sV (exec_move rfl fr.2.1)),
     (fun _ _ _ _ _ _ fr _=>sV (exec_move rfl fr.2.2.2.1)),
     (fun _ _ _ _ _ _ _ kn=>sV (exec_idx rfl Tryz.underlying171 size_int kn.1 kn.2.1 hlt)),
     (fun _ _ _ _ _ _ _ kn=>sV (exec_ld rfl kn.1 (load_int (cell0 kn.2.1 hlt)))),
     (fun _ _ _ _ _ _ _ kn=>sV (exec_add rfl kn.1 kn.2.1 (sum_lo (hW k hlt) (W1 k hlt)) (sum_hi (hW k hlt) (W1 k hlt)))),
     (fun _ _ _ _ _ _ _ kn=>.inl ⟨trivial,fun K hK=>wp_value (exec_rem rfl kn.1 (sum_nn (hW k hlt) (W1 k hlt)) (sum_hi (hW k hlt) (W1 k hlt))) (hK _ _ ⟨Touch.refl _ _,congrArg (Value.int .i64) (HE.out k)⟩)⟩),
     (fun _ _ ww _ _ _ _ kn=>.inl ⟨trivial,fun K hK=>stepp enterBytes rfl (args1 kn.1) ((rbytes_run (bsum s k) ww (by rw[← HE.out k];exact addw_w _ _)).mono (fun e w' ⟨he,h1,h2⟩=>⟨_,he,rfl,h1,h2⟩)) (R:=fun u w'=>u=.slice (some ⟨ww.heap.size,0,none⟩) 4 4∧ArrAt w' ww.heap.size .u8 5 4 (b4 (bsum s k))∧Below ww.heap.size ww w') (fun v w' ⟨hv,h1,h2⟩=>hK _ _ ⟨touch_below h2,ww.heap.size,Nat.le_refl _,hv,obIn h1⟩)⟩),
     (fun _ _ _ _ _ _ _ kn=>.inl ⟨trivial,fun K hK=>act_copy rfl kn.1 kn.2.1.1 (obAt kn.2.2.2.1) (m:=4) (by show 4=min 4 (64-4*k);omega) (by omega) (fun q hq=>by rw[Nat.zero_add];exact ArrAt.cell (obAt kn.2.2.1) q hq) (fun w2 hg ho=>hK _ _ ⟨⟨touch_only ho,obIn ((show _=_ from by rw[show pw (bsum s) (k+1)=over (pw (bsum s) k) (4*k) 4 (b4 (bsum s k)) from (over_putw _ _ _).symm];exact hg))⟩,trivial⟩)⟩),
     trivial⟩ ?_
   intro vs5 own5 v5 hB5 hs5 kn inj
   clear inj
   have G2:ArrAt v5 (w.heap.size+1+1) .u8 183 64 (fun _=>0):=obAt kn.1
   have Rs:RowAt v5 bs .i64 3 16 s:=kn.2.1
   have Rt:RowAt v5 bt .i64 3 16 t:=kn.2.2.1
   have G4:ArrAt v5 B4 .u8 183 64 (pw (bsum s) (k+1)):=obAt kn.2.2.2.1
   simp only[putAll,Act.put,List.setIfInBounds_toArray,List.set_cons_zero,List.set_cons_succ]
   go_wp2_with fail
   go_roundg (16-(k+1))
   case rel=>exact ⟨k+1,Hid.mk (by omega),by go_num,G2,Rs,Rt,G4,hB5⟩
   case measure=>have:=HK.out;omega
  ·have hk2:k=16:=by omega
   subst hk2
   clear hlt hk16 HK
   go_wp2_with (first|(refine ld_arr isArr64 g4 (by rfl) ?_)|(refine st_arr isArr64 g2 (by rfl) (by rfl) ?_;intro v6 g5 o5))
   exact bodyPost_ret (v:=.agg (WA .u8 64 (pw (bsum s) 16))) (res_arr rfl isArr64 g5 rfl) rfl ⟨rfl,hB.trans (o5.below (by omega))⟩
def dsq (key inn:Nat→Int) (k:Nat) (i:Nat):Int:=if 12≤i∧i<12+k then wrd inn (i-12) else ksq key 12 i
theorem dsq_0 (key inn:Nat→Int):dsq key inn 0=ksq key 12:=by
 funext i
 unfold dsq
 rw[if_neg (by omega)]
theorem dsq_step (key inn:Nat→Int) (k:Nat):upd (dsq key inn k) (12+k) (wrd inn k)=dsq key inn (k+1):=by
 funext i
 unfold upd dsq
 by_cases e:i=12+k
 ·subst e;rw[if_pos rfl,if_pos (by omega)];congr 1;omega
 ·rw[if_neg e]
  by_cases h:12≤i∧i<12+k
  ·rw[if_pos h,if_pos (by omega)]
  ·rw[if_neg h,if_neg (by omega)]
theorem dsq_w {key inn:Nat→Int} (hk:Byts 32 key) (hi:Byts 16 inn):∀ i,i<16→W32 (dsq key inn 4 i):=fun i h=>by
 unfold dsq
 split
 ·exact wrd_w hi (by omega)
 ·exact ksq_w hk 12 i (by omega)
theorem dsq_rsq (key inn:Nat→Int):∀ i,i<16→dsq key inn 4 i=rsq key inn i:=fun i h=>by
 unfold dsq
 split
 ·rw[rsq_high _ _ _ (by omega)]
 ·rw[rsq_low _ _ _ (by omega)]
def dv (f:Nat→Int):Nat→Nat→Int
 | 0=>fun _=>0
 | k+1=>putw (putw (dv f k) k (f k)) (4+k) (f (12+k))
theorem dv_congr {f g:Nat→Int} (h:∀ i,i<16→f i=g i):∀ k,k≤4→dv f k=dv g k
 | 0,_=>rfl
 | k+1,hk=>by unfold dv;rw[dv_congr h k (by omega),h k (by omega),h (12+k) (by omega)]
def der (key inn:Nat→Int):Nat→Int:=dv (rnds (dsq key inn 4) 10) 4
theorem Derive_run (key inn:Nat→Int) (w:World) (hk:Byts 32 key) (hi:Byts 16 inn) :
  Calls Tryz.prog 176 #[.agg (WA .u8 32 key),.agg (WA .u8 16 inn)] w fun e w'=>e=.returned (.agg (WA .u8 32 (der key inn)))∧Below w.heap.size w w':=by
 unfold der
 have g0:ArrAt (((w.alloc (.cells (WA .u8 32 key) 22)).alloc (.cells (WA .u8 16 inn) 54)).alloc (.cells (WA .u8 32 fun _=>0) 22)) w.heap.size .u8 22 32 key:=heap_a31 w _ _ _
 have g1:ArrAt (((w.alloc (.cells (WA .u8 32 key) 22)).alloc (.cells (WA .u8 16 inn) 54)).alloc (.cells (WA .u8 32 fun _=>0) 22)) (w.heap.size+1) .u8 54 16 inn:=heap_a32 w _ _ _
 have g2:ArrAt (((w.alloc (.cells (WA .u8 32 key) 22)).alloc (.cells (WA .u8 16 inn) 54)).alloc (.cells (WA .u8 32 fun _=>0) 22)) (w.heap.size+1+1) .u8 22 32 (fun _=>0):=heap_a3 w _ _ _
 have hB:Below w.heap.size w (((w.alloc (.cells (WA .u8 32 key) 22)).alloc (.cells (WA .u8 16 inn) 54)).alloc (.cells (WA .u8 32 fun _=>0) 22)):=(((Below.refl _ w).alloc (by simp) _).alloc (by simp) _).alloc (by simp;omega) _
 go_enter Tryz.func176,Tryz.ntmps176
 go_wp2_with (first|(refine ld_arr isArr32 g0 (by rfl) ?_))
 refine (keySquare_run key _ hk).mono ?_
 rintro e v1 ⟨rfl,hb⟩
 replace g1:=g1.kept hb
 replace g2:=g2.kept hb
 replace hB:=hB.trans (hb.mono hB.size)
 clear hb g0
 go_wp2_with (first|(refine st_arr (s':=fun _=>0) (k':=.u32) isSq (heap_alloc_new v1 _) (by rfl) (by rfl) ?_;intro v2 g3 o3;refine Hid.out ?_))
 have hs1:=g2.lt
 replace g1:=(g1.alloc _).only o3 (Nat.ne_of_lt g1.lt)
 replace g2:=(g2.alloc _).only o3 (Nat.ne_of_lt g2.lt)
 replace hB:=(hB.alloc hB.size _).trans (o3.below hB.size)
 clear o3
 generalize v1.heap.size=B3 at *
 rw[← dsq_0 key inn] at g3
 refine Hid.mk ?_
 go_wp2_with fail
 go_loopg [11] 4 (fun m i v=>∃ k:Nat,Hid (m+k=4)∧i=.int .i64 k∧ArrAt v (w.heap.size+1) .u8 54 16 inn∧ArrAt v (w.heap.size+1+1) .u8 22 32 (fun _=>0)∧ArrAt v B3 .u32 207 16 (dsq key inn k)∧Below w.heap.size w v)
 case atStart=>exact ⟨0,Hid.mk rfl,rfl,g1,g2,g3,hB⟩
 case round =>
  clear g1 g2 g3 hB
  obtain ⟨k,HK,rfl,g1,g2,g3,hB⟩:=hrel
  have hk4:k≤4:=by have:=HK.out;omega
  by_cases hlt:k<4
  ·go_wp2_with fail
   refine (wordAt_run (w.heap.size+1) 16 16 inn k _ g1.row hi (by omega) (by omega) (by omega)).mono ?_
   rintro e v3 ⟨rfl,hb⟩
   replace g1:=g1.kept hb
   replace g2:=g2.kept hb
   replace g3:=g3.kept hb
   replace hB:=hB.trans (hb.mono hB.size)
   clear hb
   have c3:=g3.cell (12+k) (by omega)
   have f3:=g3.free (12+k)
   go_wp2_with fail
   go_roundg (4-(k+1))
   case rel=>exact ⟨k+1,Hid.mk (by omega),by go_num,g1.other _ (by omega),g2.other _ (by omega),by rw[← dsq_step key inn k];exact g3.set (12+k) _ (by omega),Below.setCell hB (by simp;omega) _⟩
   case measure=>have:=HK.out;omega
  ·have hk2:k=4:=by omega
   subst hk2
   clear hlt hk4 HK g1
   go_wp2_with (first|(refine ld_arr isSq g3 (by rfl) ?_))
   refine (rounds_run _ _ (dsq_w hk hi)).mono ?_
   rintro e v3 ⟨rfl,hb⟩
   replace g2:=g2.kept hb
   replace g3:=g3.kept hb
   replace hB:=hB.trans (hb.mono hB.size)
   clear hb
   have W1:=rnds_w (dsq_w hk hi) 10
   obtain ⟨r,hr⟩:∃ r,rnds (dsq key inn 4) 10=r:=⟨_,rfl⟩
   have HR:=Hid.mk hr
   rw[hr] at W1 ⊢
   clear hr
   go_wp2_with (first|(refine st_arr isSq g3 (by rfl) (by rfl) ?_;clear g3;intro v4 g3 o3;refine Hid.out ?_))
   replace g2:=g2.only o3 (by omega)
   replace hB:=hB.trans (o3.below (by omega))
   clear o3
   refine Hid.mk ?_
   go_wp2_with fail
   have hs4:=g3.lt
   go_loopg [23] 4 (fun m i v=>∃ k:Nat,Hid (m+k=4)∧i=.int .i64 k∧ArrAt v (w.heap.size+1+1) .u8 22 32 (fun _=>0)∧ArrAt v B3 .u32 207 16 r∧ArrAt v v4.heap.size .u8 22 32 (dv r k)∧Below w.heap.size w v)
   case atStart=>exact ⟨0,Hid.mk rfl,rfl,g2.alloc _,g3.alloc _,heap_alloc_new v4 _,hB.alloc hB.size _⟩
   case round =>
    clear g2 g3 hB
    obtain ⟨k,HK,rfl,g2,g3,g4,hB⟩:=hrel
    generalize v4.heap.size=B4 at *
    have hk4:k≤4:=by have:=HK.out;omega
    by_cases hlt:k<4
    ·have h16:k<16:=by omega
     have h16b:12+k<16:=by omega
     go_wp2_with fail
     refine wp_region3 (Below w.heap.size w) wr.heap.size
      [((w.heap.size+1+1),fixd (WA .u8 32 (fun _=>0)) 22),(B3,fixd (WA .u32 16 r) 207),(B4,once (WA .u8 32 (dv r k)) 22 5 (WA .u8 32 (putw (dv r k) k (r k))))]
      [kv (.slice (some ⟨B4,0,none⟩) 32 32),kv (.int .i64 (k:Int)),kv (.int .i64 (k:Int)),kv (.pointer (some ⟨B3,k,none⟩)),kv (.int .u32 (r k)),kv (.tuple #[])]
      [.none,.none,.none,.none,.none,.base 2 1]
      [some 26,some 27,some 28,some 29,some 30,some 31]
      [(5,.pointer (some ⟨B3,0,none⟩)),(7,.pointer (some ⟨B4,0,none⟩)),(8,.int .i64 (k:Int))]
      [[],[],[],[.slot 2],[.slot 3,.base 1 0],[.slot 0,.slot 1,.slot 4,.base 2 0]]
      [.base 0 0,.base 1 0,.base 2 1] [26,27,28,29,30,31]
      rfl (by kernel_rfl) ⟨rfl,rfl,rfl,trivial⟩ (Below.drew hB) (Nat.le_refl _) ⟨⟨g2.lt,obIn g2⟩,⟨g3.lt,obIn g3⟩,⟨g4.lt,obIn g4⟩,trivial⟩ ⟨⟨trivial,(show ((w.heap.size+1+1):Nat)≠B4 from by omega),trivial⟩,⟨(show (B3:Nat)≠B4 from by omega),trivial⟩,trivial,trivial⟩ (below_G hB.size ⟨by omega,by omega,by omega,trivial⟩)
      ⟨
       (fun _ _ _ _ _ _ fr _=>sV (exec_sl rfl fr.2.1 (sl32 _ _))),
       (fun _ _ _ _ _ _ fr _=>sV (exec_move rfl fr.2.2.1)),
       (fun _ _ _ _ _ _ fr _=>sV (exec_move rfl fr.2.2.1)),
       (fun _ _ _ _ _ _ fr kn=>sV (exec_idxA rfl undSq lenSq sizeSq fr.1 kn.1 h16)),
       (fun _ _ _ _ _ _ _ kn=>sV (exec_ld rfl kn.1 (run_load32 (ArrAt.cell (obAt kn.2.1) k h16)))),
       (fun _ _ ww _ _ _ _ kn=>.inl ⟨trivial,fun K hK=>stepp enterPut rfl (args3 kn.1 kn.2.1 kn.2.2.1) ((putWord_arr B4 32 (dv r k) k (r k) ww (obAt kn.2.2.2.1) (W1 k h16) (by omega) (by omega)).mono (fun e w' ⟨he,h1,h2⟩=>⟨_,he,rfl,h1,h2⟩)) (R:=fun u w'=>u=.tuple #[]∧ArrAt w' B4 .u8 _ 32 (putw (dv r k) k (r k))∧Only B4 ww w') (fun v w' ⟨hv,h1,h2⟩=>hK _ _ ⟨⟨touch_only h2,obIn h1⟩,hv⟩)⟩),
       trivial⟩ ?_
     intro vs5 own5 v5 hB5 hs5 kn inj
     clear inj g2 g3 g4 hB
     have g2:ArrAt v5 (w.heap.size+1+1) .u8 22 32 (fun _=>0):=obAt kn.1
     have g3:ArrAt v5 B3 .u32 207 16 r:=obAt kn.2.1
     have g4:ArrAt v5 B4 .u8 22 32 (putw (dv r k) k (r k)):=obAt kn.2.2.1
     clear kn hs5
     simp only[putAll,Act.put,List.setIfInBounds_toArray,List.set_cons_zero,List.set_cons_succ]
     go_wp2_with fail
     refine wp_region3 (Below w.heap.size w) v5.heap.size
      [((w.heap.size+1+1),fixd (WA .u8 32 (fun _=>0)) 22),(B3,fixd (WA .u32 16 r) 207),(B4,once (WA .u8 32 (putw (dv r k) k (r k))) 22 7 (WA .u8 32 (dv r (k+1))))]
      [kv (.slice (some ⟨B4,0,none⟩) 32 32),kv (.int .i64 (k:Int)),kv (.int .i64 ((4+k:Nat):Int)),kv (.int .i64 (k:Int)),kv (.int .i64 ((12+k:Nat):Int)),kv (.pointer (some ⟨B3,(12+k),none⟩)),kv (.int .u32 (r (12+k))),kv (.tuple #[])]
      [.none,.none,.none,.none,.none,.none,.none,.base 2 1]
      [some 32,some 33,some 34,some 35,some 36,some 37,some 38,some 39]
      [(5,.pointer (some ⟨B3,0,none⟩)),(7,.pointer (some ⟨B4,0,none⟩)),(8,.int .i64 (k:Int))]
      [[],[],[.slot 1],[],[.slot 3],[.slot 4],[.slot 5,.base 1 0],[.slot 0,.slot 2,.slot 6,.base 2 0]]
      [.base 0 0,.base 1 0,.base 2 1] [32,33,34,35,36,37,38,39]
      rfl (by kernel_rfl) ⟨rfl,rfl,rfl,trivial⟩ (Below.drew hB5) (Nat.le_refl _) ⟨⟨g2.lt,obIn g2⟩,⟨g3.lt,obIn g3⟩,⟨g4.lt,obIn g4⟩,trivial⟩ ⟨⟨trivial,(show ((w.heap.size+1+1):Nat)≠B4 from by omega),trivial⟩,⟨(show (B3:Nat)≠B4 from by omega),trivial⟩,trivial,trivial⟩ (below_G hB5.size ⟨by omega,by omega,by omega,trivial⟩)
      ⟨
       (fun _ _ _ _ _ _ fr _=>sV (exec_sl rfl fr.2.1 (sl32 _ _))),
       (fun _ _ _ _ _ _ fr _=>sV (exec_move rfl fr.2.2.1)),
       (fun _ _ _ _ _ _ _ kn=>sV (exec_add rfl rfl kn.1 (by omega) (by omega))),
       (fun _ _ _ _ _ _ fr _=>sV (exec_move rfl fr.2.2.1)),
       (fun _ _ _ _ _ _ _ kn=>sV (exec_add rfl rfl kn.1 (by omega) (by omega))),
       (fun _ _ _ _ _ _ fr kn=>sV (exec_idxA rfl undSq lenSq sizeSq fr.1 kn.1 h16b)),
       (fun _ _ _ _ _ _ _ kn=>sV (exec_ld rfl kn.1 (run_load32 (ArrAt.cell (obAt kn.2.1) (12+k) h16b)))),
       (fun _ _ ww _ _ _ _ kn=>.inl ⟨trivial,fun K hK=>stepp enterPut rfl (args3 kn.1 kn.2.1 kn.2.2.1) ((putWord_arr B4 32 (putw (dv r k) k (r k)) (4+k) (r (12+k)) ww (obAt kn.2.2.2.1) (W1 (12+k) h16b) (by omega) (by omega)).mono (fun e w' ⟨he,h1,h2⟩=>⟨_,he,rfl,h1,h2⟩)) (R:=fun u w'=>u=.tuple #[]∧ArrAt w' B4 .u8 _ 32 (putw (putw (dv r k) k (r k)) (4+k) (r (12+k)))∧Only B4 ww w') (fun v w' ⟨hv,h1,h2⟩=>hK _ _ ⟨⟨touch_only h2,obIn h1⟩,hv⟩)⟩),
       trivial⟩ ?_
     intro vs6 own6 v6 hB6 hs6 kn inj
     clear inj g2 g3 g4 hB5
     have g2:ArrAt v6 (w.heap.size+1+1) .u8 22 32 (fun _=>0):=obAt kn.1
     have g3:ArrAt v6 B3 .u32 207 16 r:=obAt kn.2.1
     have g4:ArrAt v6 B4 .u8 22 32 (dv r (k+1)):=obAt kn.2.2.1
     clear kn hs6
     simp only[putAll,Act.put,List.setIfInBounds_toArray,List.set_cons_zero,List.set_cons_succ]
     go_wp2_with fail
     go_roundg (4-(k+1))
     case rel=>exact ⟨k+1,Hid.mk (by omega),by go_num,g2,g3,g4,hB6⟩
     case measure=>have:=HK.out;omega
    ·have hk2:k=4:=by omega
     subst hk2
     clear hlt hk4 HK
     rw[← HR.out] at g4
     go_wp2_with (first|(refine ld_arr isArr32 g4 (by rfl) ?_)|(refine st_arr isArr32 g2 (by rfl) (by rfl) ?_;intro v6 g5 o5))
     exact bodyPost_ret (v:=.agg (WA .u8 32 (dv (rnds (dsq key inn 4) 10) 4))) (res_arr rfl isArr32 g5 rfl) rfl ⟨rfl,hB.trans (o5.below (by omega))⟩
theorem rDerive_run (key inn:Nat→Int) (w:World) (hk:Byts 32 key) (hi:Byts 16 inn) :
  Calls Tryz.prog 147 #[.agg (WA .u8 32 key),.agg (WA .u8 16 inn)] w fun e w'=>e=.returned (.agg (WA .u8 32 (der key inn)))∧Below w.heap.size w w':=by
 rw[show der key inn=dv (rnds (rsq key inn) 10) 4 from dv_congr (rnds_congr (dsq_rsq key inn) 10) 4 (Nat.le_refl _)]
 have g0:ArrAt (((w.alloc (.cells (WA .u8 32 key) 22)).alloc (.cells (WA .u8 16 inn) 54)).alloc (.cells (WA .u8 32 fun _=>0) 22)) w.heap.size .u8 22 32 key:=heap_a31 w _ _ _
 have g1:ArrAt (((w.alloc (.cells (WA .u8 32 key) 22)).alloc (.cells (WA .u8 16 inn) 54)).alloc (.cells (WA .u8 32 fun _=>0) 22)) (w.heap.size+1) .u8 54 16 inn:=heap_a32 w _ _ _
 have g2:ArrAt (((w.alloc (.cells (WA .u8 32 key) 22)).alloc (.cells (WA .u8 16 inn) 54)).alloc (.cells (WA .u8 32 fun _=>0) 22)) (w.heap.size+1+1) .u8 22 32 (fun _=>0):=heap_a3 w _ _ _
 have hB:Below w.heap.size w (((w.alloc (.cells (WA .u8 32 key) 22)).alloc (.cells (WA .u8 16 inn) 54)).alloc (.cells (WA .u8 32 fun _=>0) 22)):=(((Below.refl _ w).alloc (by simp) _).alloc (by simp) _).alloc (by simp;omega) _
 have hW:=rsq_w hk hi
 have hS:=fun w=>rsquare_run key inn w hk hi
 generalize rsq key inn=s at *
 go_enter Tryz.func147,Tryz.ntmps147
 go_wp2_with (first|(refine ld_arr isArr32 g0 (by rfl) ?_)|(refine ld_arr isArr16 g1 (by rfl) ?_))
 refine (hS _).mono ?_
 rintro e v3 ⟨bs,cs,rfl,hcs,hbs,rs,hb3⟩
 have hz2:=g2.lt
 replace g2:=g2.kept hb3
 replace hB:=hB.trans (hb3.mono hB.size)
 have hz3:w.heap.size+1+1<bs:=Nat.lt_of_lt_of_le hz2 hbs
 clear g0 g1 hb3 hS hbs hz2
 go_wp2_with fail
 refine (twenty_run s bs cs _ rs hW).mono ?_
 rintro e v4 ⟨bt,ct,rfl,hct,hbt,rt,hb4⟩
 replace g2:=g2.kept hb4
 have hz4:bs<bt:=Nat.lt_of_lt_of_le rs.lt hbt
 replace hB:=hB.trans (hb4.mono hB.size)
 clear hb4 rs
 have W1:=rnds_w hW 10
 obtain ⟨t,ht⟩:∃ r,rnds s 10=r:=⟨_,rfl⟩
 have HR:=Hid.mk ht
 rw[ht] at W1 rt
 clear ht
 go_wp2_with fail
 have hz5:=rt.lt
 go_loopg [7] 4 (fun m i v=>∃ k:Nat,Hid (m+k=4)∧i=.int .i64 k∧ArrAt v (w.heap.size+1+1) .u8 22 32 (fun _=>0)∧RowAt v bt .i64 3 16 t∧ArrAt v v4.heap.size .u8 22 32 (dv t k)∧Below w.heap.size w v)
 case atStart=>exact ⟨0,Hid.mk rfl,rfl,g2.alloc _,rt.alloc _,heap_alloc_new v4 _,hB.alloc hB.size _⟩
 case round =>
  clear g2 rt hB
  obtain ⟨k,HK,rfl,g2,rt,g4,hB⟩:=hrel
  generalize v4.heap.size=B4 at *
  have hk4:k≤4:=by have:=HK.out;omega
  by_cases hlt:k<4
  ·have h16:k<16:=by omega
   have h16b:12+k<16:=by omega
   go_wp2_with fail
   refine wp_region3 (Below w.heap.size w) wr.heap.size
    [((w.heap.size+1+1),fixd (WA .u8 32 (fun _=>0)) 22),(bt,⟨rowOb .i64 3 16 t,[]⟩),(B4,once (WA .u8 32 (dv t k)) 22 8 (WA .u8 32 (putw (dv t k) k (t k))))]
    [kv (.int .i64 (k:Int)),kv (.int .i64 ((4*k:Nat):Int)),kv (.slice (some ⟨B4,4*k,none⟩) (32-4*k) (32-4*k)),kv (.slice (some ⟨bt,0,none⟩) 16 ct),kv (.int .i64 (k:Int)),kv (.pointer (some ⟨bt,0+k,none⟩)),kv (.int .i64 (t k)),ks 4 (WA .u8 4 (b4 (t k))) 5,.val fun _=>True]
    [.none,.none,.none,.none,.none,.none,.none,.none,.base 2 1]
    [some 16,some 17,some 18,some 19,some 20,some 21,some 22,some 23,some 24]
    [(5,.slice (some ⟨bt,0,none⟩) 16 ct),(6,.pointer (some ⟨B4,0,none⟩)),(7,.int .i64 (k:Int))]
    [[],[.slot 0],[.slot 1],[],[],[.slot 3,.slot 4],[.slot 5,.base 1 0],[.slot 6],[.slot 2,.slot 7,.cont 7 0,.base 2 0]]
    [.base 0 0,.base 1 0,.base 2 1] [16,17,18,19,20,21,22,23,24]
    rfl (by kernel_rfl) ⟨rfl,rfl,rfl,trivial⟩ (Below.drew hB) (Nat.le_refl _) ⟨⟨g2.lt,obIn g2⟩,⟨rt.lt,rt⟩,⟨g4.lt,obIn g4⟩,trivial⟩ ⟨⟨trivial,(show ((w.heap.size+1+1):Nat)≠B4 from by omega),trivial⟩,⟨(show (bt:Nat)≠B4 from by omega),trivial⟩,trivial,trivial⟩ (below_G hB.size ⟨by omega,by omega,by omega,trivial⟩)
    ⟨
     (fun _ _ _ _ _ _ fr _=>sV (exec_move rfl fr.2.2.1)),
     (fun _ _ _ _ _ _ _ kn=>sV (exec_mul rfl rfl kn.1 (by omega) (by omega))),
     (fun _ _ _ _ _ _ fr kn=>sV (exec_slL rfl fr.2.1 kn.1 (sl32L _ _ _ (by omega)))),
     (fun _ _ _ _ _ _ fr _=>sV (exec_move rfl fr.1)),
     (fun _ _ _ _ _ _ fr _=>sV (exec_move rfl fr.2.2.1)),
     (fun _ _ _ _ _ _ _ kn=>sV (exec_idx rfl Tryz.underlying171 size_int kn.1 kn.2.1 h16)),
     (fun _ _ _ _ _ _ _ kn=>sV (exec_ld rfl kn.1 (load_int (cell0 kn.2.1 h16)))),
     (fun _ _ ww _ _ _ _ kn=>.inl ⟨trivial,fun K hK=>stepp enterBytes rfl (args1 kn.1) ((rbytes_run (t k) ww (W1 k h16)).mono (fun e w' ⟨he,h1,h2⟩=>⟨_,he,rfl,h1,h2⟩)) (R:=fun u w'=>u=.slice (some ⟨ww.heap.size,0,none⟩) 4 4∧ArrAt w' ww.heap.size .u8 5 4 (b4 (t k))∧Below ww.heap.size ww w') (fun v w' ⟨hv,h1,h2⟩=>hK _ _ ⟨touch_below h2,ww.heap.size,Nat.le_refl _,hv,obIn h1⟩)⟩),
     (fun _ _ _ _ _ _ _ kn=>.inl ⟨trivial,fun K hK=>act_copy rfl kn.1 kn.2.1.1 (obAt kn.2.2.2.1) (m:=4) (by show 4=min 4 (32-4*k);omega) (by omega) (fun q hq=>by rw[Nat.zero_add];exact ArrAt.cell (obAt kn.2.2.1) q hq) (fun w2 hg ho=>hK _ _ ⟨⟨touch_only ho,obIn ((show _=_ from by rw[show putw (dv t k) k (t k)=over (dv t k) (4*k) 4 (b4 (t k)) from (over_putw _ _ _).symm];exact hg))⟩,trivial⟩)⟩),
     trivial⟩ ?_
   intro vs5 own5 v5 hB5 hs5 kn inj
   clear inj g2 rt g4 hB
   have g2:ArrAt v5 (w.heap.size+1+1) .u8 22 32 (fun _=>0):=obAt kn.1
   have rt:RowAt v5 bt .i64 3 16 t:=kn.2.1
   have g4:ArrAt v5 B4 .u8 22 32 (putw (dv t k) k (t k)):=obAt kn.2.2.1
   clear kn hs5
   simp only[putAll,Act.put,List.setIfInBounds_toArray,List.set_cons_zero,List.set_cons_succ]
   go_wp2_with fail
   refine wp_region3 (Below w.heap.size w) v5.heap.size
    [((w.heap.size+1+1),fixd (WA .u8 32 (fun _=>0)) 22),(bt,⟨rowOb .i64 3 16 t,[]⟩),(B4,once (WA .u8 32 (putw (dv t k) k (t k))) 22 10 (WA .u8 32 (dv t (k+1))))]
    [kv (.int .i64 (k:Int)),kv (.int .i64 ((4*k:Nat):Int)),kv (.int .i64 ((16+4*k:Nat):Int)),kv (.slice (some ⟨B4,16+4*k,none⟩) (32-(16+4*k)) (32-(16+4*k))),kv (.slice (some ⟨bt,0,none⟩) 16 ct),kv (.int .i64 (k:Int)),kv (.int .i64 ((12+k:Nat):Int)),kv (.pointer (some ⟨bt,0+(12+k),none⟩)),kv (.int .i64 (t (12+k))),ks 4 (WA .u8 4 (b4 (t (12+k)))) 5,.val fun _=>True]
    [.none,.none,.none,.none,.none,.none,.none,.none,.none,.none,.base 2 1]
    [some 25,some 26,some 27,some 28,some 29,some 30,some 31,some 32,some 33,some 34,some 35]
    [(5,.slice (some ⟨bt,0,none⟩) 16 ct),(6,.pointer (some ⟨B4,0,none⟩)),(7,.int .i64 (k:Int))]
    [[],[.slot 0],[.slot 1],[.slot 2],[],[],[.slot 5],[.slot 4,.slot 6],[.slot 7,.base 1 0],[.slot 8],[.slot 3,.slot 9,.cont 9 0,.base 2 0]]
    [.base 0 0,.base 1 0,.base 2 1] [25,26,27,28,29,30,31,32,33,34,35]
    rfl (by kernel_rfl) ⟨rfl,rfl,rfl,trivial⟩ (Below.drew hB5) (Nat.le_refl _) ⟨⟨g2.lt,obIn g2⟩,⟨rt.lt,rt⟩,⟨g4.lt,obIn g4⟩,trivial⟩ ⟨⟨trivial,(show ((w.heap.size+1+1):Nat)≠B4 from by omega),trivial⟩,⟨(show (bt:Nat)≠B4 from by omega),trivial⟩,trivial,trivial⟩ (below_G hB5.size ⟨by omega,by omega,by omega,trivial⟩)
    ⟨
     (fun _ _ _ _ _ _ fr _=>sV (exec_move rfl fr.2.2.1)),
     (fun _ _ _ _ _ _ _ kn=>sV (exec_mul rfl rfl kn.1 (by omega) (by omega))),
     (fun _ _ _ _ _ _ _ kn=>sV (exec_add rfl rfl kn.1 (by omega) (by omega))),
     (fun _ _ _ _ _ _ fr kn=>sV (exec_slL rfl fr.2.1 kn.1 (sl32L _ _ _ (by omega)))),
     (fun _ _ _ _ _ _ fr _=>sV (exec_move rfl fr.1)),
     (fun _ _ _ _ _ _ fr _=>sV (exec_move rfl fr.2.2.1)),
     (fun _ _ _ _ _ _ _ kn=>sV (exec_add rfl rfl kn.1 (by omega) (by omega))),
     (fun _ _ _ _ _ _ _ kn=>sV (exec_idx rfl Tryz.underlying171 size_int kn.1 kn.2.1 h16b)),
     (fun _ _ _ _ _ _ _ kn=>sV (exec_ld rfl kn.1 (load_int (cell0 kn.2.1 h16b)))),
     (fun _ _ ww _ _ _ _ kn=>.inl ⟨trivial,fun K hK=>stepp enterBytes rfl (args1 kn.1) ((rbytes_run (t (12+k)) ww (W1 (12+k) h16b)).mono (fun e w' ⟨he,h1,h2⟩=>⟨_,he,rfl,h1,h2⟩)) (R:=fun u w'=>u=.slice (some ⟨ww.heap.size,0,none⟩) 4 4∧ArrAt w' ww.heap.size .u8 5 4 (b4 (t (12+k)))∧Below ww.heap.size ww w') (fun v w' ⟨hv,h1,h2⟩=>hK _ _ ⟨touch_below h2,ww.heap.size,Nat.le_refl _,hv,obIn h1⟩)⟩),
     (fun _ _ _ _ _ _ _ kn=>.inl ⟨trivial,fun K hK=>act_copy rfl kn.1 kn.2.1.1 (obAt kn.2.2.2.1) (m:=4) (by show 4=min 4 (32-(16+4*k));omega) (by omega) (fun q hq=>by rw[Nat.zero_add];exact ArrAt.cell (obAt kn.2.2.1) q hq) (fun w2 hg ho=>hK _ _ ⟨⟨touch_only ho,obIn ((show _=_ from by rw[show dv t (k+1)=over (putw (dv t k) k (t k)) (16+4*k) 4 (b4 (t (12+k))) from by rw[show 16+4*k=4*(4+k) by omega];exact (over_putw _ _ _).symm];exact hg))⟩,trivial⟩)⟩),
     trivial⟩ ?_
   intro vs6 own6 v6 hB6 hs6 kn inj
   clear inj g2 rt g4 hB5
   have g2:ArrAt v6 (w.heap.size+1+1) .u8 22 32 (fun _=>0):=obAt kn.1
   have rt:RowAt v6 bt .i64 3 16 t:=kn.2.1
   have g4:ArrAt v6 B4 .u8 22 32 (dv t (k+1)):=obAt kn.2.2.1
   clear kn hs6
   simp only[putAll,Act.put,List.setIfInBounds_toArray,List.set_cons_zero,List.set_cons_succ]
   go_wp2_with fail
   go_roundg (4-(k+1))
   case rel=>exact ⟨k+1,Hid.mk (by omega),by go_num,g2,rt,g4,hB6⟩
   case measure=>have:=HK.out;omega
  ·have hk2:k=4:=by omega
   subst hk2
   clear hlt hk4 HK
   rw[← HR.out] at g4
   go_wp2_with (first|(refine ld_arr isArr32 g4 (by rfl) ?_)|(refine st_arr isArr32 g2 (by rfl) (by rfl) ?_;intro v6 g5 o5))
   exact bodyPost_ret (v:=.agg (WA .u8 32 (dv (rnds s 10) 4))) (res_arr rfl isArr32 g5 rfl) rfl ⟨rfl,hB.trans (o5.below (by omega))⟩
end Go.Proofs.YthghcjepdhkfdaaGreatDoor
namespace Go.Proofs.YthghcjepdhkfdaaGreatDoor
open Go.Proofs
open Go.Shelf
def lays169_ren:Go.Shelf.Ren:=⟨fun | 169=>186 | n=>n,fun | 70=>209 | 9=>9 | 0=>0 | 72=>211 | 37=>81 | 127=>234 | 3=>3 | 5=>5 | n=>n,fun | n=>n⟩
theorem lays169:Go.Proofs.Lays.n169 Tryz.prog lays169_ren:={
 mixed:=by kernel_rfl
 f169:=Tryz.func186.trans (congrArg some (by kernel_rfl))
 t0:=Tryz.underlying0
 a0:=Tryz.isAgg0
 z0:=Tryz.sizeOf0
 v0:=Tryz.zeroValue0
 t3:=Tryz.underlying3
 a3:=Tryz.isAgg3
 z3:=Tryz.sizeOf3
 v3:=Tryz.zeroValue3
 t9:=Tryz.underlying9
 a9:=Tryz.isAgg9
 z9:=Tryz.sizeOf9
 v9:=Tryz.zeroValue9
 t37:=Tryz.underlying81
 a37:=Tryz.isAgg81
 z37:=Tryz.sizeOf81
 v37:=Tryz.zeroValue81
 t70:=Tryz.underlying209
 a70:=Tryz.isAgg209
 z70:=Tryz.sizeOf209
 v70:=Tryz.zeroValue209
 t72:=Tryz.underlying211
 a72:=Tryz.isAgg211
 z72:=Tryz.sizeOf211
 v72:=Tryz.zeroValue211
 t127:=Tryz.underlying234
 a127:=Tryz.isAgg234
 z127:=Tryz.sizeOf234
 v127:=Tryz.zeroValue234 }
theorem Builder_Extra_169:Builder.Extra Tryz.prog lays169_ren:={
 sizeBuilder:=by kernel_rfl
 liesBuilder:=by kernel_rfl
 t5:=Tryz.underlying5
 a5:=Tryz.isAgg5
 z5:=Tryz.sizeOf5
 v5:=Tryz.zeroValue5
 infoByte:=by kernel_rfl
 cellsByte:=by kernel_rfl
 sizeByte:=by kernel_rfl
 neB5:=by decide }
open Go.RowKit in
theorem Builder_String_any (B b:Nat) (l:List UInt8) (w:World) (h:Lib.IsBuilder 211 5 B b (Lib.byteCells l) w) (hBw:B≤w.heap.size) :
  Calls Tryz.prog 186 #[.pointer (some ⟨b,0,none⟩)] w fun e w'=>e=.returned (.string ⟨l.toArray⟩)∧Below B w w':=Any.Builder_String_any lays169 Builder_Extra_169 B b l w h hBw
def lays165_ren:Go.Shelf.Ren:=⟨fun | 165=>182 | 240=>207 | 241=>208 | 276=>218 | 277=>219 | n=>n,fun | 70=>209 | 3=>3 | 0=>0 | 4=>4 | 9=>9 | 20=>20 | 72=>211 | 37=>81 | 164=>244 | 5=>5 | n=>n,fun | n=>n⟩
theorem lays165:Go.Proofs.Lays.n165 Tryz.prog lays165_ren:={
 mixed:=by kernel_rfl
 f165:=Tryz.func182.trans (congrArg some (by kernel_rfl))
 f240:=Tryz.func207.trans (congrArg some (by kernel_rfl))
 f241:=Tryz.func208.trans (congrArg some (by kernel_rfl))
 f276:=Tryz.func218.trans (congrArg some (by kernel_rfl))
 f277:=Tryz.func219.trans (congrArg some (by kernel_rfl))
 t0:=Tryz.underlying0
 a0:=Tryz.isAgg0
 z0:=Tryz.sizeOf0
 v0:=Tryz.zeroValue0
 t3:=Tryz.underlying3
 a3:=Tryz.isAgg3
 z3:=Tryz.sizeOf3
 v3:=Tryz.zeroValue3
 t4:=Tryz.underlying4
 a4:=Tryz.isAgg4
 z4:=Tryz.sizeOf4
 v4:=Tryz.zeroValue4
 t9:=Tryz.underlying9
 a9:=Tryz.isAgg9
 z9:=Tryz.sizeOf9
 v9:=Tryz.zeroValue9
 t20:=Tryz.underlying20
 a20:=Tryz.isAgg20
 z20:=Tryz.sizeOf20
 v20:=Tryz.zeroValue20
 t37:=Tryz.underlying81
 a37:=Tryz.isAgg81
 z37:=Tryz.sizeOf81
 v37:=Tryz.zeroValue81
 t70:=Tryz.underlying209
 a70:=Tryz.isAgg209
 z70:=Tryz.sizeOf209
 v70:=Tryz.zeroValue209
 t72:=Tryz.underlying211
 a72:=Tryz.isAgg211
 z72:=Tryz.sizeOf211
 v72:=Tryz.zeroValue211
 t164:=Tryz.underlying244
 a164:=Tryz.isAgg244
 z164:=Tryz.sizeOf244
 v164:=Tryz.zeroValue244 }
theorem Builder_Extra_165:Builder.Extra Tryz.prog lays165_ren:={
 sizeBuilder:=by kernel_rfl
 liesBuilder:=by kernel_rfl
 t5:=Tryz.underlying5
 a5:=Tryz.isAgg5
 z5:=Tryz.sizeOf5
 v5:=Tryz.zeroValue5
 infoByte:=by kernel_rfl
 cellsByte:=by kernel_rfl
 sizeByte:=by kernel_rfl
 neB5:=by decide }
open Go.RowKit in
theorem Builder_Grow_fresh (B b n:Nat) (w:World) (hB:B≤b) (hbk:w.heap[b]?=some (.cells #[.pointer none,.slice none 0 0] 211 (0,0))) (hBw:B≤w.heap.size) (hn:n≤281474976710656) :
  Calls Tryz.prog 182 #[.pointer (some ⟨b,0,none⟩),.int .i64 n] w fun e w'=>e=.returned (.tuple #[])∧(Lib.BuilderAt 211 5 B b (.pointer (some ⟨b,0,none⟩)) [] w'∧Below B w w'):=Any.Builder_Grow_fresh lays165 Builder_Extra_165 B b n w hB hbk hBw hn
open Go.RowKit in
theorem copyCheck_used (b:Nat) (w:World) (h0:w.cell? ⟨b,0,none⟩=some (.pointer (some ⟨b,0,none⟩))) :
  Calls Tryz.prog 207 #[.pointer (some ⟨b,0,none⟩)] w fun e w'=>e=.returned (.tuple #[])∧w'=w:=Any.Builder_copyCheck_used { lays165 with } Builder_Extra_165.toX72 b w h0
end Go.Proofs.YthghcjepdhkfdaaGreatDoor
namespace Go.Proofs.YthghcjepdhkfdaaGreatDoor
open Go.RowKit Go.Proofs
def Bld (w:World) (B b n:Nat) (f:Nat→Int):Prop:=Lib.BuilderAt 211 5 B b (.pointer (some ⟨b,0,none⟩)) (nums .u8 n f) w
theorem Bld.kept {w w':World} {B b n:Nat} {f:Nat→Int} (h:Bld w B b n f) (hb:Below w.heap.size w w'):Bld w' B b n f:=by
 obtain ⟨hB,v,hk,ho,hn⟩:=h
 exact ⟨hB,v,(hb.block b (heap_lt hk)).trans hk,own_kept ho hb,hn⟩
theorem Bld.congr {w:World} {B b n:Nat} {f g:Nat→Int} (h:Bld w B b n f) (e:∀ i,i<n→f i=g i):Bld w B b n g:=by
 unfold Bld;rw[← nums_congr e];exact h
theorem neB5:211≠5:=by decide
theorem write_run (B b n m c bd off:Nat) (f r:Nat→Int) (w:World) (h:Bld w B b n f) (hc:∀ j,j<m→w.cell? ⟨bd,off+j,none⟩=some (.int .u8 (r j))) (hlen:n+m≤140737488355328) (hBw:B≤w.heap.size) :
  Calls Tryz.prog 185 #[.pointer (some ⟨b,0,none⟩),.slice (some ⟨bd,off,none⟩) m c] w fun e w'=>e=.returned (.tuple #[.int .i64 m,.nilIface])∧Bld w' B b (n+m) (cat n f r)∧Below B w w':=by
 obtain ⟨i0,hi,hz0,hz1,hz2⟩:=info_parts infoByte
 obtain ⟨hB,v,hbk,hown,hne⟩:=h
 rw[nums_len] at hown
 have c0:w.cell? ⟨b,0,none⟩=some (.pointer (some ⟨b,0,none⟩)):=by rw[Lib.cell_of_heap hbk];rfl
 have c1:w.cell? ⟨b,1,none⟩=some v:=by rw[Lib.cell_of_heap hbk];rfl
 have HC:Hid (∀ j u,(nums .u8 m r)[j]?=some u→w.cell? ((⟨bd,off,none⟩:Addr).add j)=some u):=Hid.mk (fun j u hj=>by
  obtain ⟨hj2,rfl⟩:=nums_get hj
  rw[Addr.add_lit]
  exact hc j hj2)
 clear hc
 go_enter Tryz.func185,Tryz.ntmps185
 go_wp2_with fail
 refine (copyCheck_used b w c0).mono ?_
 rintro e w1 ⟨rfl,rfl⟩
 go_wp2_with (at_builtin;refine wpList_append_own w1 rfl _ _ 81 rfl B 5 i0 (.int .u8 0) 1 1 Tryz.underlying81 hi hz0 hz1 hz2 rfl (by decide) _ n _ rfl hown ⟨bd,off,none⟩ m c (nums .u8 m r) rfl (by rw[nums_len];omega) HC.out nums_one ?c3 ?c4 hBw ?_)
 case c3=>unfold maxLen;omega
 case c4=>omega
 intro v' w2 hown' hgrow _
 clear HC
 rw[nums_cat] at hown'
 have hlt:b<w1.heap.size:=heap_lt hbk
 have hb2:w2.heap[b]?=some (.cells #[.pointer (some ⟨b,0,none⟩),v] 211 (0,0)):=by
  rw[hgrow.block b hlt (fun e=>hne e.symm)]
  exact hbk
 have d0:w2.cell? ⟨b,0,none⟩=some (.pointer (some ⟨b,0,none⟩)):=by rw[Lib.cell_of_heap hb2];rfl
 have d1:w2.cell? ⟨b,1,none⟩=some v:=by rw[Lib.cell_of_heap hb2];rfl
 have f1:w2.frozen? ⟨b,1,none⟩=false:=Lib.frozen_of_heap hb2 1
 obtain ⟨ao,n',cap,rfl⟩:∃ ao n' cap,v'=.slice ao n' cap:=by
  rcases hown'.2 with ⟨hv,_⟩ | ⟨g,cap,cur,hv,_⟩
  ·exact ⟨_,_,_,hv⟩
  ·exact ⟨_,_,_,hv⟩
 go_wp2
 exact bodyPost_ret (v:=.tuple #[.int .i64 m,.nilIface]) (by simp[results,Tryz.results185,go_sem]) rfl
  ⟨rfl,Lib.BuilderAt.put hB hb2 (by rw[nums_len];exact hown') neB5,(Below.grow hgrow hBw (own_base hown)).setCell (p:=⟨b,1,none⟩) hB _⟩
theorem string_run (B b n:Nat) (f:Nat→Int) (w:World) (h:Bld w B b n f) (hf:∀ j,j<n→0≤f j∧f j<256) (hBw:B≤w.heap.size) :
  Calls Tryz.prog 186 #[.pointer (some ⟨b,0,none⟩)] w fun e w'=>e=.returned (.string (mkS n f))∧Below B w w' :=
 Builder_String_any B b (bytesL n f) w (.inr (by rw[← nums_bytes hf];exact h)) hBw
theorem grow_run (B b n:Nat) (w:World) (hB:B≤b) (hbk:w.heap[b]?=some (.cells #[.pointer none,.slice none 0 0] 211 (0,0))) (hBw:B≤w.heap.size) (hn:n≤281474976710656) :
  Calls Tryz.prog 182 #[.pointer (some ⟨b,0,none⟩),.int .i64 n] w fun e w'=>e=.returned (.tuple #[])∧Bld w' B b 0 (fun _=>0)∧Below B w w':=Builder_Grow_fresh B b n w hB hbk hBw hn
def ksb (key nonce:Nat→Int) (c:Int) (j:Nat):Int:=blk (ssq key ((c+(j/64:Nat))%4294967296) nonce 3) (j%64)
def strm (key nonce:Nat→Int) (c:Int) (s:ByteArray) (j:Nat):Int:=xorw (txt s j) (ksb key nonce c j)
theorem ssq_12 (key nonce:Nat→Int) (c d:Int) (k:Nat):upd (ssq key c nonce k) 12 d=ssq key d nonce k:=by
 funext i
 unfold upd ssq
 split<;>rfl
theorem ahead_sq (key nonce:Nat→Int) (c:Int) (k:Nat):upd (ssq key c nonce 3) 12 (addw (ssq key c nonce 3 12) ((k:Int)%4294967296))=ssq key ((c+(k:Nat))%4294967296) nonce 3:=by
 rw[ssq_12,show ssq key c nonce 3 12=c from rfl]
 unfold addw
 congr 1
 omega
def xo (b p:Nat→Int) (j:Nat) (i:Nat):Int:=if i<j then xorw (b i) (p i) else b i
theorem xo_step (b p:Nat→Int) (j:Nat):upd (xo b p j) j (xorw (xo b p j j) (p j))=xo b p (j+1):=by
 funext i
 unfold upd xo
 by_cases e:i=j
 ·subst e;simp
 ·rw[if_neg e]
  by_cases h:i<j
  ·rw[if_pos h,if_pos (by omega)]
  ·rw[if_neg h,if_neg (by omega)]
theorem xo_b {b p:Nat→Int} {n:Nat} (j:Nat) (hb:∀ i,i<n→0≤b i∧b i<256) (hp:∀ i,0≤p i∧p i<256):∀ i,i<n→0≤xo b p j i∧xo b p j i<256:=fun i hi=>by
 unfold xo
 split
 ·exact xorw_b (hb i hi) (hp i)
 ·exact hb i hi
theorem blk_b (s:Nat→Int):Byts 64 (blk s):=pw_byts _ _ _
theorem sl64H (b j:Nat) (w:World) (hj:j≤64):(Instr.sliceAt 183 (.pointer (some ⟨b,0,none⟩)) none (some (.int .i64 (j:Int))) none).run Tryz.prog w=.ok (.slice (some ⟨b,0,none⟩) j 64) w:=by
 rw[run_sliceAt_array_h (P:=Tryz.prog) w 183 ⟨b,0,none⟩ Tryz.underlying183 .i64 (j:Int) (by omega) (by rw[len64];omega),sizeB64,len64]
 simp only[Result.andThen_ok,slicedAt,Int.toNat_natCast,Nat.zero_mul]
 rw[if_neg (by omega),Addr.add_lit]
 simp
theorem strm_b (key nonce:Nat→Int) (c:Int) (s:ByteArray) (j:Nat):0≤strm key nonce c s j∧strm key nonce c s j<256:=xorw_b (txt_b s j) (blk_b _ _ (Nat.mod_lt _ (by decide)))
theorem Stream_run (key nonce:Nat→Int) (c:Int) (s:ByteArray) (w:World) (hk:Byts 32 key) (hn:Byts 12 nonce) (_hc:W32 c) (hs:s.size≤140737488355328) :
  Calls Tryz.prog 149 #[.agg (WA .u8 32 key),.int .u32 c,.agg (WA .u8 12 nonce),.string s] w fun e w'=>e=.returned (.string (mkS s.size (strm key nonce c s)))∧Below w.heap.size w w':=by
 have g0:ArrAt ((w.alloc (.cells (WA .u8 32 key) 22)).alloc (.cells (WA .u8 12 nonce) 26)) w.heap.size .u8 22 32 key:=heap_alloc2_old w _ _
 have g1:ArrAt ((w.alloc (.cells (WA .u8 32 key) 22)).alloc (.cells (WA .u8 12 nonce) 26)) (w.heap.size+1) .u8 26 12 nonce:=heap_alloc2_new w _ _
 have hB:Below w.heap.size w ((w.alloc (.cells (WA .u8 32 key) 22)).alloc (.cells (WA .u8 12 nonce) 26)):=((Below.refl _ w).alloc (by simp) _).alloc (by simp) _
 go_enter Tryz.func149,Tryz.ntmps149
 go_wp2_with (first|(refine ld_arr isArr32 g0 (by rfl) ?_)|(refine ld_arr isArr12 g1 (by rfl) ?_))
 refine (streamSquare_run key nonce c _ hk hn).mono ?_
 rintro e v1 ⟨rfl,hb⟩
 replace hB:=hB.trans (hb.mono hB.size)
 clear hb g0 g1
 go_wp2_with (first|(refine st_arr (s':=fun _=>0) (k':=.u32) isSq (heap_alloc_new v1 _) (by rfl) (by rfl) ?_;intro v2 g3 o3;refine Hid.out ?_))
 have hz9:w.heap.size≤v1.heap.size:=hB.size
 replace hB:=(hB.alloc hB.size _).trans (o3.below hB.size)
 have hz1:=hB.size
 clear o3
 generalize v1.heap.size=b9 at *
 refine Hid.mk ?_
 go_wp2_with fail
 refine (grow_run v2.heap.size v2.heap.size s.size _ (Nat.le_refl _) (heap_alloc_new v2 _) (by simp) (by omega)).mono ?_
 rintro e v3 ⟨rfl,hD,hb3⟩
 have hz10:=g3.lt
 replace g3:=(g3.alloc _).below hb3 hz10
 replace hB:=(hB.alloc hB.size _).trans (hb3.mono hz1)
 have hz3:v2.heap.size≤v3.heap.size:=Nat.le_trans (by simp) hb3.size
 clear hb3 hz1
 generalize v2.heap.size=b10 at *
 obtain ⟨N,hN⟩:∃ N:Nat,(s.size+63)/64=N:=⟨_,rfl⟩
 have hq:((s.size:Int)+64-1).tdiv 64=(N:Int):=by rw[Int.tdiv_eq_ediv_of_nonneg (by omega)];omega
 have hN2:(N:Int)<9223372036854775807:=by omega
 go_wp2_with fail
 go_loopg [28] N (fun m i v=>∃ k:Nat,Hid (m+k=N)∧i=.int .i64 k∧ArrAt v b9 .u32 207 16 (ssq key c nonce 3)∧Bld v b10 b10 (min (64*k) s.size) (strm key nonce c s)∧Below w.heap.size w v∧b10≤v.heap.size)
 case atStart=>exact ⟨0,Hid.mk (by omega),rfl,g3,by simpa using hD.congr (fun i hi=>by omega),hB,hz3⟩
 case round =>
  clear g3 hD hB hz3
  obtain ⟨k,HK,rfl,g3,hD,hB,hz3⟩:=hrel
  have hkN:k≤N:=by have:=HK.out;omega
  by_cases hlt:k<N
  ·have hks:64*k<s.size:=by omega
   go_wp2_with (first|(refine ld_arr isSq g3 (by rfl) ?_))
   refine (ahead_run _ _ _).mono ?_
   rintro e v4 ⟨rfl,hb4⟩
   rw[ahead_sq]
   have hW:∀ i,i<16→W32 (ssq key ((c+(k:Nat))%4294967296) nonce 3 i):=ssq_w hk hn (by unfold W32;omega)
   have HB:Hid (blk (ssq key ((c+(k:Nat))%4294967296) nonce 3)=fun i=>blk (ssq key ((c+(k:Nat))%4294967296) nonce 3) i):=Hid.mk rfl
   go_wp2_with fail
   refine (block_run _ _ hW).mono ?_
   rintro e v5 ⟨rfl,hb5⟩
   have hb45:Below wr.heap.size wr v5:=hb4.trans (hb5.mono hb4.size)
   replace g3:=g3.kept hb45
   replace hD:=hD.kept hb45
   replace hB:=hB.trans (hb45.mono hB.size)
   replace hz3:=Nat.le_trans hz3 hb45.size
   clear hb4 hb5 hb45 hW HB
   have hbk:=blk_b (ssq key ((c+(k:Nat))%4294967296) nonce 3)
   obtain ⟨bk,HK2⟩:∃ bk,Hid (blk (ssq key ((c+(k:Nat))%4294967296) nonce 3)=bk):=⟨_,Hid.mk rfl⟩
   rw[HK2.out] at hbk ⊢
   have HS:=Hid.mk (extract_size s (k*64))
   have HT:Hid (∀ j,k*64+j<s.size→txt (s.extract (k*64) s.size) j=txt s (k*64+j)):=Hid.mk (fun j hj=>txt_extract s (k*64) j hj)
   generalize s.extract (k*64) s.size=pc at *
   obtain ⟨n,HN⟩:∃ n:Nat,Hid (min pc.size 64=n):=⟨_,Hid.mk rfl⟩
   have hmin:min (pc.size:Int) 64=(n:Int):=by have:=HN.out;omega
   have hn64:n≤64:=by have:=HN.out;omega
   have hnp:n≤pc.size:=by have:=HN.out;omega
   have hpsz:pc.size≤140737488355328:=by have:=HS.out;omega
   go_wp2_with (first|(refine st_arr (s':=fun _=>0) (k':=.u8) isArr64 (heap_alloc_new v5 _) (by rfl) (by rfl) ?_;intro v6 g6 o6;refine Hid.out ?_))
   have hb6:Below v5.heap.size v5 v6:=((Below.refl _ v5).alloc (Nat.le_refl _) _).trans (o6.below (Nat.le_refl _))
   clear o6
   refine Hid.mk ?_
   go_wp2_with fail
   rw[show bk=xo bk (txt pc) 0 from by funext i;unfold xo;rw[if_neg (by omega)]] at g6
   obtain ⟨b13,hb13⟩:∃ b,v5.heap.size=b:=⟨_,rfl⟩
   rw[hb13] at g6 hb6 ⊢
   generalize wr=wo at *
   generalize gk=go at *
   go_loopg [44] n (fun m i v=>∃ j:Nat,Hid (m+j=n)∧i=.int .i64 j∧ArrAt v b13 .u8 183 64 (xo bk (txt pc) j)∧Below b13 v5 v)
   case atStart=>exact ⟨0,Hid.mk (by omega),rfl,g6,hb6⟩
   case round =>
    clear g6 hb6
    obtain ⟨j,HJ,rfl,g6,hb6⟩:=hrel
    have hjn:j≤n:=by have:=HJ.out;omega
    by_cases hjl:j<n
    ·have hj64:j<64:=by omega
     have hjp:j<pc.size:=by omega
     go_wp2_with fail
     refine wp_region3 (Below b13 v5) wr.heap.size
      [(b13,once (WA .u8 64 (xo bk (txt pc) j)) 183 8 (WA .u8 64 (xo bk (txt pc) (j+1))))]
      [kv (.int .i64 (j:Int)),kv (.pointer (some ⟨b13,j,none⟩)),kv (.int .u8 (xo bk (txt pc) j j)),kv (.string pc),kv (.int .i64 (j:Int)),kv (.int .u8 (txt pc j)),kv (.int .u8 (xorw (xo bk (txt pc) j j) (txt pc j))),kv (.pointer (some ⟨b13,j,none⟩)),.val fun _=>True]
      [.none,.none,.none,.none,.none,.none,.none,.none,.base 0 1]
      [some 47,some 48,some 49,some 50,some 51,some 52,some 53,some 54,none]
      [(12,.string pc),(13,.pointer (some ⟨b13,0,none⟩)),(15,.int .i64 (j:Int))]
      [[],[.slot 0],[.slot 1,.base 0 0],[],[],[.slot 3,.slot 4],[.slot 2,.slot 5],[.slot 0],[.slot 7,.slot 6,.base 0 0]]
      [.base 0 1] [47,48,49,50,51,52,53,54]
      rfl (by kernel_rfl) ⟨rfl,rfl,rfl,trivial⟩ (Below.drew hb6) (Nat.le_refl _) ⟨⟨g6.lt,obIn g6⟩,trivial⟩ ⟨trivial,trivial⟩ (below_Gc (Nat.le_of_eq hb13.symm) (hb13▸hb6.size) ⟨Nat.le_refl _,trivial⟩)
      ⟨
       (fun _ _ _ _ _ _ fr _=>sV (exec_move rfl fr.2.2.1)),
       (fun _ _ _ _ _ _ fr kn=>sV (exec_idxA rfl Tryz.underlying183 len64 sizeB64 fr.2.1 kn.1 hj64)),
       (fun _ _ _ _ _ _ _ kn=>sV (exec_ld rfl kn.1 (run_load8 (ArrAt.cell (obAt kn.2.1) j hj64)))),
       (fun _ _ _ _ _ _ fr _=>sV (exec_move rfl fr.1)),
       (fun _ _ _ _ _ _ fr _=>sV (exec_move rfl fr.2.2.1)),
       (fun _ _ _ _ _ _ _ kn=>sV (exec_ixs rfl kn.1 kn.2.1 hjp)),
       (fun _ _ _ _ _ _ _ kn=>sV (exec_xor8 rfl kn.1 kn.2.1 (xo_b j hbk (txt_b pc) j hj64) (txt_b pc j))),
       (fun _ _ _ _ _ _ fr kn=>sV (exec_idxA rfl Tryz.underlying183 len64 sizeB64 fr.2.1 kn.1 hj64)),
       (fun _ _ _ _ _ _ _ kn=>.inl ⟨trivial,fun K hK=>act_cell8 rfl kn.1 kn.2.1 (obAt kn.2.2.1) hj64 (fun w2 hg ho=>hK _ _ ⟨⟨touch_only ho,obIn (show _=_ from by rw[← xo_step];exact hg)⟩,trivial⟩)⟩),
       trivial⟩ ?_
     intro vs7 own7 v7 hb7 hs7 kn inj
     clear inj hs7
     have G6:ArrAt v7 b13 .u8 183 64 (xo bk (txt pc) (j+1)):=obAt kn.1
     clear kn
     simp only[putAll,Act.put,List.setIfInBounds_toArray,List.set_cons_zero,List.set_cons_succ]
     go_wp2_with fail
     go_roundg (n-(j+1))
     case rel=>exact ⟨j+1,Hid.mk (by omega),by go_num,G6,hb7⟩
     case measure=>have:=HJ.out;omega
    ·have hj2:j=n:=by omega
     subst hj2
     clear hjl hjn HJ
     have hsl:=fun w=>sl64H b13 j w hn64
     go_wp2_with fail
     have hD2:=hD.kept (hb13.symm▸hb6)
     have g3b:=g3.kept (hb13.symm▸hb6)
     refine (write_run b10 b10 (min (64*k) s.size) j 64 b13 0 (strm key nonce c s) (xo bk (txt pc) j) _ hD2 (fun q hq=>by rw[Nat.zero_add];exact g6.cell q (by omega)) (by have:=HS.out;omega) (by have:=hb6.size;omega)).mono ?_
     rintro e v8 ⟨rfl,hD8,hb8⟩
     have hks2:min (64*k) s.size=64*k:=by omega
     have hnx:min (64*k) s.size+j=min (64*(k+1)) s.size:=by have:=HN.out;have:=HS.out;omega
     replace hD8:=hD8.congr (g:=strm key nonce c s) (fun i hi=>by
      rw[hks2]
      unfold cat
      split
      ·rfl
      ·rename_i h
       have e1:i/64=k:=by omega
       have e2:i%64=i-64*k:=by omega
       have e3:txt pc (i-64*k)=txt s i:=by
        have:=HT.out (i-64*k) (by have:=HS.out;omega)
        rw[this]
        congr 1
        omega
       unfold xo strm ksb
       rw[if_pos (by omega),e1,e2,e3,HK2.out,xorw_comm])
     rw[hnx] at hD8
     have g8:=g3b.below hb8 hz10
     have hB8:=(hB.trans (Below.mono (hb13.symm▸hb6) hB.size)).trans (hb8.mono (by omega))
     have hz8:b10≤v8.heap.size:=by have:=hb8.size;have:=hb6.size;omega
     clear hsl hD hD2 g3 g3b g6 hb6 hb8 hB hmin
     go_wp2_with fail
     go_roundg (N-(k+1))
     case rel=>exact ⟨k+1,Hid.mk (by omega),by go_num,g8,hD8,hB8,hz8⟩
     case measure=>have:=HK.out;omega
  ·have hk2:k=N:=by omega
   subst hk2
   have hall:min (64*k) s.size=s.size:=by omega
   rw[hall] at hD
   go_wp2_with fail
   refine (string_run b10 b10 s.size (strm key nonce c s) _ hD (fun j _=>strm_b key nonce c s j) hz3).mono ?_
   rintro e v9 ⟨rfl,hb9⟩
   go_wp2_with fail
   go_ret
   exact ⟨rfl,hB.trans (hb9.mono (by omega))⟩
def mix (g t:Nat→Int) (i:Nat) (j:Nat):Int:=if j<i then g j else t j
theorem mix_step (g t:Nat→Int) (i:Nat) (v:Int) (h:v=g i):upd (mix g t i) i v=mix g t (i+1):=by
 subst h
 funext j
 unfold upd mix
 by_cases e:j=i
 ·subst e;simp
 ·rw[if_neg e]
  by_cases h:j<i
  ·rw[if_pos h,if_pos (by omega)]
  ·rw[if_neg h,if_neg (by omega)]
theorem rStream_run (key nonce:Nat→Int) (c:Int) (s:ByteArray) (w:World) (hk:Byts 32 key) (hn:Byts 12 nonce) (hc:W32 c) (hs:s.size≤140737488355328) :
  Calls Tryz.prog 128 #[.agg (WA .u8 32 key),.int .u32 c,.agg (WA .u8 12 nonce),.string s] w fun e w'=>e=.returned (.string (mkS s.size (strm key nonce c s)))∧Below w.heap.size w w':=by
 have g0:ArrAt ((w.alloc (.cells (WA .u8 32 key) 22)).alloc (.cells (WA .u8 12 nonce) 26)) w.heap.size .u8 22 32 key:=heap_alloc2_old w _ _
 have g1:ArrAt ((w.alloc (.cells (WA .u8 32 key) 22)).alloc (.cells (WA .u8 12 nonce) 26)) (w.heap.size+1) .u8 26 12 nonce:=heap_alloc2_new w _ _
 have hB:Below w.heap.size w ((w.alloc (.cells (WA .u8 32 key) 22)).alloc (.cells (WA .u8 12 nonce) 26)):=((Below.refl _ w).alloc (by simp) _).alloc (by simp) _
 obtain ⟨cp,v1,hcv,hR,hb1⟩:=conv_str s ((w.alloc (.cells (WA .u8 32 key) 22)).alloc (.cells (WA .u8 12 nonce) 26))
 rw[show ((w.alloc (.cells (WA .u8 32 key) 22)).alloc (.cells (WA .u8 12 nonce) 26)).heap.size=w.heap.size+1+1 by simp] at hcv hR
 replace g0:=g0.kept hb1
 replace g1:=g1.kept hb1
 replace hB:=hB.trans (hb1.mono hB.size)
 clear hb1
 go_enter Tryz.func128,Tryz.ntmps128
 go_wp2_with fail
 clear hcv
 obtain ⟨b9,hb9⟩:∃ b,w.heap.size+1+1=b:=⟨_,rfl⟩
 rw[hb9] at hR ⊢
 obtain ⟨N,hN⟩:∃ N:Nat,(s.size+63)/64=N:=⟨_,rfl⟩
 go_loopg [1,10] N (fun m cv i v=>∃ q:Nat,Hid (m+q=N)∧cv=.int .u32 ((c+(q:Nat))%4294967296)∧i=.int .i64 ((min (64*q) s.size:Nat):Int)∧ArrAt v w.heap.size .u8 22 32 key∧ArrAt v (w.heap.size+1) .u8 26 12 nonce∧RowAt v b9 .u8 5 s.size (mix (strm key nonce c s) (txt s) (min (64*q) s.size))∧Below w.heap.size w v)
 case atStart=>exact ⟨0,Hid.mk (by omega),by unfold W32 at hc;congr 1;omega,by simp,g0,g1,hR.mono (Nat.le_refl _) (fun i _=>by simp[mix]),hB⟩
 case round =>
  clear g0 g1 hR hB
  obtain ⟨q,HQ,rfl,rfl,g0,g1,hR,hB⟩:=hrel
  have hqN:q≤N:=by have:=HQ.out;omega
  by_cases hlt:q<N
  ·have hqs:64*q<s.size:=by omega
   have hm:min (64*q) s.size=64*q:=by omega
   rw[hm] at hR ⊢
   go_wp2_with (first|(refine ld_arr isArr32 g0 (by rfl) ?_)|(refine ld_arr isArr12 g1 (by rfl) ?_))
   refine (rBlock_run key nonce ((c+(q:Nat))%4294967296) _ hk hn (by unfold W32;omega)).mono ?_
   rintro e v4 ⟨rfl,hb4⟩
   replace g0:=g0.kept hb4
   replace g1:=g1.kept hb4
   have hz4:b9<v4.heap.size:=Nat.lt_of_lt_of_le hR.lt hb4.size
   replace hR:=hR.below hb4 hR.lt
   replace hB:=hB.trans (hb4.mono hB.size)
   clear hb4
   have hbk:=blk_b (ssq key ((c+(q:Nat))%4294967296) nonce 3)
   obtain ⟨bk,HK2⟩:∃ bk,Hid (blk (ssq key ((c+(q:Nat))%4294967296) nonce 3)=bk):=⟨_,Hid.mk rfl⟩
   rw[HK2.out] at hbk ⊢
   go_wp2_with (first|(refine st_arr (s':=fun _=>0) (k':=.u8) isArr64 (heap_alloc_new v4 _) (by rfl) (by rfl) ?_;intro v5 g5 o5;refine Hid.out ?_))
   replace g0:=(g0.alloc _).only o5 (Nat.ne_of_lt g0.lt)
   replace g1:=(g1.alloc _).only o5 (Nat.ne_of_lt g1.lt)
   replace hR:=(hR.alloc _).only o5 (Nat.ne_of_lt hz4)
   replace hB:=(hB.alloc hB.size _).trans (o5.below hB.size)
   clear o5
   generalize v4.heap.size=b11 at *
   refine Hid.mk ?_
   have hd:decide (((64*q:Nat):Int)<(s.size:Int))=true:=by simp;omega
   go_wp2_with fail
   obtain ⟨n,hnn⟩:∃ n:Nat,min 64 (s.size-64*q)=n:=⟨_,rfl⟩
   generalize wr=wo at *
   generalize gk=go at *
   go_loopg [10,12] n (fun m i jv v=>∃ j:Nat,Hid (m+j=n)∧i=.int .i64 ((64*q+j:Nat):Int)∧jv=.int .i64 (j:Int)∧ArrAt v w.heap.size .u8 22 32 key∧ArrAt v (w.heap.size+1) .u8 26 12 nonce∧ArrAt v b11 .u8 183 64 bk∧RowAt v b9 .u8 5 s.size (mix (strm key nonce c s) (txt s) (64*q+j))∧Below w.heap.size w v)
   case atStart=>exact ⟨0,Hid.mk (by omega),by go_num,rfl,g0,g1,g5,hR,hB⟩
   case round =>
    clear g0 g1 hR hB g5
    obtain ⟨j,HJ,rfl,rfl,g0,g1,g5,hR,hB⟩:=hrel
    have hjn:j≤n:=by have:=HJ.out;omega
    by_cases hjl:j<n
    ·have hj64:j<64:=by omega
     have hjs:64*q+j<s.size:=by omega
     have HX:Hid (xorw (mix (strm key nonce c s) (txt s) (64*q+j) (64*q+j)) (bk j)=strm key nonce c s (64*q+j)):=Hid.mk (by
      have e1:(64*q+j)/64=q:=by omega
      have e2:(64*q+j)%64=j:=by omega
      unfold mix strm ksb
      rw[if_neg (by omega),e1,e2,HK2.out])
     have hmb:0≤mix (strm key nonce c s) (txt s) (64*q+j) (64*q+j)∧mix (strm key nonce c s) (txt s) (64*q+j) (64*q+j)<256:=by
      unfold mix
      rw[if_neg (by omega)]
      exact txt_b _ _
     obtain ⟨i,hi⟩:∃ i,64*q+j=i:=⟨_,rfl⟩
     rw[hi] at HX hmb hR hjs ⊢
     have hic:(i:Int)<(s.size:Int):=by omega
     go_wp2_with fail
     refine wp_region3 (Below w.heap.size w) wr.heap.size
      [(w.heap.size,fixd (WA .u8 32 key) 22),((w.heap.size+1),fixd (WA .u8 12 nonce) 26),(b11,fixd (WA .u8 64 bk) 183),(b9,⟨rowOb .u8 5 s.size (mix (strm key nonce c s) (txt s) i),[(11,rowOb .u8 5 s.size (mix (strm key nonce c s) (txt s) (i+1)))]⟩)]
      [kv (.slice (some ⟨b9,0,none⟩) s.size cp),kv (.int .i64 (i:Int)),kv (.slice (some ⟨b9,0,none⟩) s.size cp),kv (.int .i64 (i:Int)),kv (.pointer (some ⟨b9,0+i,none⟩)),kv (.int .u8 (mix (strm key nonce c s) (txt s) i i)),kv (.int .i64 (j:Int)),kv (.pointer (some ⟨b11,j,none⟩)),kv (.int .u8 (bk j)),kv (.int .u8 (xorw (mix (strm key nonce c s) (txt s) i i) (bk j))),kv (.pointer (some ⟨b9,0+i,none⟩)),.val fun _=>True]
      [.none,.none,.none,.none,.none,.none,.none,.none,.none,.none,.none,.base 3 1]
      [some 33,some 34,some 35,some 36,some 37,some 38,some 39,some 40,some 41,some 42,some 43,none]
      [(9,.slice (some ⟨b9,0,none⟩) s.size cp),(10,.int .i64 (i:Int)),(11,.pointer (some ⟨b11,0,none⟩)),(12,.int .i64 (j:Int))]
      [[],[],[],[],[.slot 2,.slot 3],[.slot 4,.base 3 0],[],[.slot 6],[.slot 7,.base 2 0],[.slot 5,.slot 8],[.slot 0,.slot 1],[.slot 10,.slot 9,.base 3 0]]
      [.base 0 0,.base 1 0,.base 2 0,.base 3 1] [33,34,35,36,37,38,39,40,41,42,43]
      rfl (by kernel_rfl) ⟨rfl,rfl,rfl,rfl,trivial⟩ (Below.drew hB) (Nat.le_refl _) ⟨⟨g0.lt,obIn g0⟩,⟨g1.lt,obIn g1⟩,⟨g5.lt,obIn g5⟩,⟨hR.lt,hR⟩,trivial⟩ ⟨⟨trivial,trivial,(show (w.heap.size:Nat)≠b9 from by omega),trivial⟩,⟨trivial,(show ((w.heap.size+1):Nat)≠b9 from by omega),trivial⟩,⟨(show (b11:Nat)≠b9 from by omega),trivial⟩,trivial,trivial⟩ (below_G hB.size ⟨by omega,by omega,by omega,by omega,trivial⟩)
      ⟨
       (fun _ _ _ _ _ _ fr _=>sV (exec_move rfl fr.1)),
       (fun _ _ _ _ _ _ fr _=>sV (exec_move rfl fr.2.1)),
       (fun _ _ _ _ _ _ fr _=>sV (exec_move rfl fr.1)),
       (fun _ _ _ _ _ _ fr _=>sV (exec_move rfl fr.2.1)),
       (fun _ _ _ _ _ _ _ kn=>sV (exec_idx rfl Tryz.underlying81 size_byte kn.1 kn.2.1 hjs)),
       (fun _ _ _ _ _ _ _ kn=>sV (exec_ld rfl kn.1 (run_load8 (cell8 kn.2.1 hjs)))),
       (fun _ _ _ _ _ _ fr _=>sV (exec_move rfl fr.2.2.2.1)),
       (fun _ _ _ _ _ _ fr kn=>sV (exec_idxA rfl Tryz.underlying183 len64 sizeB64 fr.2.2.1 kn.1 hj64)),
       (fun _ _ _ _ _ _ _ kn=>sV (exec_ld rfl kn.1 (run_load8 (ArrAt.cell (obAt kn.2.1) j hj64)))),
       (fun _ _ _ _ _ _ _ kn=>sV (exec_xor8 rfl kn.1 kn.2.1 hmb (hbk j hj64))),
       (fun _ _ _ _ _ _ _ kn=>sV (exec_idx rfl Tryz.underlying81 size_byte kn.1 kn.2.1 hjs)),
       (fun _ _ _ _ _ _ _ kn=>.inl ⟨trivial,fun K hK=>act_row8 rfl (ptr0 kn.1) kn.2.1 kn.2.2.1 hjs (fun w2 hg ho=>hK _ _ ⟨⟨touch_only ho,mix_step _ _ i _ HX.out▸hg⟩,trivial⟩)⟩),
       trivial⟩ ?_
     intro vs6 own6 v6 hB6 hs6 kn inj
     clear inj hs6
     have G0:ArrAt v6 w.heap.size .u8 22 32 key:=obAt kn.1
     have G1:ArrAt v6 (w.heap.size+1) .u8 26 12 nonce:=obAt kn.2.1
     have G5:ArrAt v6 b11 .u8 183 64 bk:=obAt kn.2.2.1
     have R6:RowAt v6 b9 .u8 5 s.size (mix (strm key nonce c s) (txt s) (i+1)):=kn.2.2.2.1
     clear kn
     simp only[putAll,Act.put,List.setIfInBounds_toArray,List.set_cons_zero,List.set_cons_succ]
     go_wp2_with fail
     go_roundg (n-(j+1))
     case rel=>exact ⟨j+1,Hid.mk (by omega),by go_num,by go_num,G0,G1,G5,by rw[← Nat.add_assoc,hi];exact R6,hB6⟩
     case measure=>have:=HJ.out;omega
    ·have hj2:j=n:=by omega
     subst hj2
     clear hjl hjn HJ
     have hx:64*q+j=min (64*(q+1)) s.size:=by omega
     have hend:¬ ((j:Int)<64∧((64*q+j:Nat):Int)<(s.size:Int)):=by omega
     rw[hx] at hR
     by_cases hj64:(j:Int)<64
     ·have hns:¬ (((64*q+j:Nat):Int)<(s.size:Int)):=by omega
      go_wp2_with fail
      go_roundg (N-(q+1))
      case rel=>exact ⟨q+1,Hid.mk (by omega),congrArg (Value.int .u32) (by omega),by rw[← hx],g0,g1,hR,hB⟩
      case measure=>have:=HQ.out;omega
     ·go_wp2_with fail
      go_roundg (N-(q+1))
      case rel=>exact ⟨q+1,Hid.mk (by omega),congrArg (Value.int .u32) (by omega),by rw[← hx],g0,g1,hR,hB⟩
      case measure=>have:=HQ.out;omega
  ·have hk2:q=N:=by omega
   subst hk2
   have hall:min (64*q) s.size=s.size:=by omega
   rw[hall] at hR ⊢
   have hback:=str_back s.size b9 cp wr s.size (strm key nonce c s) (hR.mono (Nat.le_refl _) (fun i hi=>by unfold mix;rw[if_pos hi])) (fun j _=>strm_b key nonce c s j) rfl
   go_wp2_with fail
   go_ret
   exact ⟨rfl,hB⟩
theorem enterWhole (args:Array Value) (w:World):(callFunc 163 args).run Tryz.prog w=.ok (.enter 163 args) w:=by kernel_rfl
theorem enterEight (args:Array Value) (w:World):(callFunc 130 args).run Tryz.prog w=.ok (.enter 130 args) w:=by kernel_rfl
theorem enterRTag (args:Array Value) (w:World):(callFunc 162 args).run Tryz.prog w=.ok (.enter 162 args) w:=by kernel_rfl
def onceK (key nonce:Nat→Int):Nat→Int:=over (fun _=>0) 0 32 (blk (ssq key 0 nonce 3))
def marked (under beside:ByteArray):ByteArray:=padZ beside++padZ under++mkS 8 (digN (beside.size:Int))++mkS 8 (digN (under.size:Int))
def markT (key nonce:Nat→Int) (under beside:ByteArray):ByteArray:=mkS 16 (digN (markN (onceK key nonce) (txt (marked under beside)) (marked under beside).size))
theorem onceK_b (key nonce:Nat→Int):Byts 32 (onceK key nonce):=fun i hi=>by
 unfold onceK over
 split
 ·exact blk_b _ _ (by omega)
 ·show 0≤(0:Int)∧(0:Int)<256
  omega
theorem padZ_size (s:ByteArray):(padZ s).size≤s.size+15:=by
 unfold padZ
 rw[ByteArray.size_append,mkS_size]
 omega
theorem zero16 (w:World):(zeroValue 54).run Tryz.prog w=.ok (.agg (WA .u8 16 fun _=>0)) w:=by kernel_rfl
theorem conv_iu {n:Int} (h:0≤n∧n<18446744073709551616) (w:World):(convert 3 98 (.int .i64 n)).run Tryz.prog w=.ok (.int .u64 n) w:=by
 simp[go_sem,w64 (z:=n) h.1 h.2]
theorem sl64h (b:Nat) (w:World):(Instr.sliceAt 183 (.pointer (some ⟨b,0,none⟩)) none (some (.int .i64 32)) none).run Tryz.prog w=.ok (.slice (some ⟨b,0,none⟩) 32 64) w:=by simp[go_sem]
theorem rmark_run (key nonce:Nat→Int) (under beside:ByteArray) (w:World) (hk:Byts 32 key) (hn:Byts 12 nonce) (hu:under.size≤281474976710656) (hbs:beside.size≤281474976710656) :
  Calls Tryz.prog 129 #[.agg (WA .u8 32 key),.agg (WA .u8 12 nonce),.string under,.string beside] w fun e w'=>e=.returned (.string (markT key nonce under beside))∧Below w.heap.size w w':=by
 have g0:ArrAt ((w.alloc (.cells (WA .u8 32 key) 22)).alloc (.cells (WA .u8 12 nonce) 26)) w.heap.size .u8 22 32 key:=heap_alloc2_old w _ _
 have g1:ArrAt ((w.alloc (.cells (WA .u8 32 key) 22)).alloc (.cells (WA .u8 12 nonce) 26)) (w.heap.size+1) .u8 26 12 nonce:=heap_alloc2_new w _ _
 have hB:Below w.heap.size w ((w.alloc (.cells (WA .u8 32 key) 22)).alloc (.cells (WA .u8 12 nonce) 26)):=((Below.refl _ w).alloc (by simp) _).alloc (by simp) _
 have p1:=padZ_size under
 have p2:=padZ_size beside
 have HL1:Hid ((padZ beside).size+(padZ under).size≤9223372036854775807):=Hid.mk (by omega)
 have HL2:Hid ((padZ beside++padZ under).size+(mkS 8 (digN (beside.size:Int))).size≤9223372036854775807):=Hid.mk (by rw[ByteArray.size_append,mkS_size];omega)
 have HL3:Hid ((padZ beside++padZ under++mkS 8 (digN (beside.size:Int))).size+(mkS 8 (digN (under.size:Int))).size≤9223372036854775807):=Hid.mk (by rw[ByteArray.size_append,ByteArray.size_append,mkS_size,mkS_size];omega)
 have HL4:Hid ((marked under beside).size≤1152921504606846976):=Hid.mk (by unfold marked;rw[ByteArray.size_append,ByteArray.size_append,ByteArray.size_append,mkS_size,mkS_size];omega)
 have HB1:Hid (0≤(beside.size:Int)∧(beside.size:Int)<18446744073709551616):=Hid.mk (by omega)
 have HB2:Hid (0≤(under.size:Int)∧(under.size:Int)<18446744073709551616):=Hid.mk (by omega)
 have HO:=Hid.mk (onceK_b key nonce)
 go_enter Tryz.func129,Tryz.ntmps129
 go_wp2_with (first|(refine ld_arr isArr32 g0 (by rfl) ?_)|(refine ld_arr isArr12 g1 (by rfl) ?_))
 refine (rBlock_run key nonce 0 _ hk hn (by unfold W32;omega)).mono ?_
 rintro e v2 ⟨rfl,hb2⟩
 replace hB:=hB.trans (hb2.mono hB.size)
 clear hb2 g0 g1
 have gn:=fun o (ho:o=Obj.cells (WA .u8 64 fun _=>0) 183 (0,0))=>(by rw[ho];exact heap_alloc_new v2 _:ArrAt (v2.alloc o) v2.heap.size .u8 183 64 (fun _=>0))
 have hBS:=hB.size
 go_wp2_with (refine st_arr isArr64 (gn _ rfl) (by rfl) (by rfl) ?_;intro v3 gb o3;refine Hid.out ?_)
 replace hB:=(hB.alloc hBS _).trans (o3.below hBS)
 clear o3 gn
 have gn:=fun o (ho:o=Obj.cells (WA .u8 32 fun _=>0) 22 (0,0))=>(by rw[ho];exact heap_alloc_new v3 _:ArrAt (v3.alloc o) v3.heap.size .u8 22 32 (fun _=>0))
 have hlb:=gb.lt
 have hBS3:=hB.size
 have HBA:=Hid.mk (hB.alloc hBS3)
 refine Hid.mk ?_
 go_wp2_with fail
 generalize v2.heap.size=bb at *
 obtain ⟨bo,hbo⟩:∃ bo,bo=v3.heap.size:=⟨_,rfl⟩
 rw[← hbo] at gn hlb ⊢
 refine wp_gen (fun v=>ArrAt v bb .u8 183 64 (blk (ssq key 0 nonce 3))∧ArrAt v bo .u8 22 32 (fun _=>0)∧Below w.heap.size w v) ⟨gb.alloc _,gn _ rfl,HBA.out _⟩ ?_
 clear gb gn hB HBA
 rintro v0 ⟨gb,go,hB⟩
 refine wp_region3 (Below w.heap.size w) v0.heap.size
  [(bo,once (WA .u8 32 (fun _=>0)) 22 2 (WA .u8 32 (over (fun _=>0) 0 32 (blk (ssq key 0 nonce 3))))),(bb,fixd (WA .u8 64 (blk (ssq key 0 nonce 3))) 183)]
  [kv (.slice (some ⟨bo,0,none⟩) 32 32),kv (.slice (some ⟨bb,0,none⟩) 32 64),.val fun _=>True]
  [.none,.none,.base 0 1]
  [some 15,some 16,some 17]
  [(10,.pointer (some ⟨bo,0,none⟩)),(9,.pointer (some ⟨bb,0,none⟩))]
  [[],[],[.slot 0,.slot 1,.base 0 0,.base 1 0]]
  [.base 0 1] [15,16,17]
  rfl (by kernel_rfl) ⟨rfl,rfl,trivial⟩ (Below.drew hB) (Nat.le_refl _) ⟨⟨go.lt,obIn go⟩,⟨gb.lt,obIn gb⟩,trivial⟩ ⟨⟨(show (bo:Nat)≠bb from by omega),trivial⟩,trivial,trivial⟩ (below_G hB.size ⟨by omega,by omega,trivial⟩)
  ⟨
   (fun _ _ ww _ _ _ fr _=>sV (exec_sl (v:=.pointer (some ⟨bo,0,none⟩)) rfl fr.1 (sl32w bo ww))),
   (fun _ _ ww _ _ _ fr _=>sV (exec_slH (v:=.pointer (some ⟨bb,0,none⟩)) (u:=.int .i64 32) rfl fr.2.1 rfl (sl64h bb ww))),
   (fun _ _ _ _ _ _ _ kn=>.inl ⟨trivial,fun K hK=>act_copy rfl kn.1 kn.2.1 (obAt kn.2.2.1) (m:=32) rfl (by omega) (r:=blk (ssq key 0 nonce 3)) (fun q hq=>by rw[Nat.zero_add];exact ArrAt.cell (obAt kn.2.2.2.1) q (by omega)) (fun w2 hg ho=>hK _ _ ⟨⟨touch_only ho,obIn hg⟩,trivial⟩)⟩),
   trivial⟩ ?_
 intro vs own v1 hB1 hs1 kn inj
 clear inj hs1 gb go hB
 have go:ArrAt v1 bo .u8 22 32 (onceK key nonce):=obAt kn.1
 have hB:=hB1
 clear kn hB1
 simp only[putAll,Act.put,List.setIfInBounds_toArray,List.set_cons_zero,List.set_cons_succ]
 go_wp2_with fail
 refine wp_region3 (Below w.heap.size w) v1.heap.size
  [(bo,fixd (WA .u8 32 (onceK key nonce)) 22)]
  [kv (.agg (WA .u8 32 (onceK key nonce))),kv (.string beside),kv (.string (padZ beside)),kv (.string under),kv (.string (padZ under)),kv (.string (padZ beside++padZ under)),kv (.string beside),kv (.int .i64 (beside.size:Int)),kv (.int .u64 (beside.size:Int)),kv (.string (mkS 8 (digN (beside.size:Int)))),kv (.string (padZ beside++padZ under++mkS 8 (digN (beside.size:Int)))),kv (.string under),kv (.int .i64 (under.size:Int)),kv (.int .u64 (under.size:Int)),kv (.string (mkS 8 (digN (under.size:Int)))),kv (.string (marked under beside)),kv (.agg (WA .u8 16 (digN (markN (onceK key nonce) (txt (marked under beside)) (marked under beside).size)))),kp (WA .u8 16 fun _=>0) 54 18 (WA .u8 16 (digN (markN (onceK key nonce) (txt (marked under beside)) (marked under beside).size))),.val fun _=>True]
  [.none,.none,.none,.none,.none,.none,.none,.none,.none,.none,.none,.none,.none,.none,.none,.none,.none,.none,.own 17 1]
  [some 18,some 19,some 20,some 21,some 22,some 23,some 24,some 25,some 26,some 27,some 28,some 29,some 30,some 31,some 32,some 33,some 34,some 11,none]
  [(10,.pointer (some ⟨bo,0,none⟩)),(3,.string beside),(2,.string under)]
  [[.base 0 0],[],[.slot 1],[],[.slot 3],[.slot 2,.slot 4],[],[.slot 6],[.slot 7],[.slot 8],[.slot 5,.slot 9],[],[.slot 11],[.slot 12],[.slot 13],[.slot 10,.slot 14],[.slot 0,.slot 15],[],[.slot 17,.cont 17 0,.slot 16]]
  [.slot 17,.cont 17 1] [18,19,20,21,22,23,24,25,26,27,28,29,30,31,32,33,34,11]
  rfl (by kernel_rfl) ⟨rfl,rfl,rfl,trivial⟩ (Below.drew hB) (Nat.le_refl _) ⟨⟨go.lt,obIn go⟩,trivial⟩ ⟨trivial,trivial⟩ (below_G hB.size ⟨by omega,trivial⟩)
  ⟨
   (fun _ _ _ _ _ _ fr kn=>sV (look_arr rfl isArr32 (obAt kn.1) fr.1)),
   (fun _ _ _ _ _ _ fr _=>sV (exec_move rfl fr.2.1)),
   (fun _ _ ww _ _ _ _ kn=>.inl ⟨trivial,fun K hK=>stepc enterWhole rfl (args1 kn.1) (rwhole_run beside ww (by omega)) (fun w' hb=>hK _ _ ⟨touch_below hb,rfl⟩)⟩),
   (fun _ _ _ _ _ _ fr _=>sV (exec_move rfl fr.2.2.1)),
   (fun _ _ ww _ _ _ _ kn=>.inl ⟨trivial,fun K hK=>stepc enterWhole rfl (args1 kn.1) (rwhole_run under ww (by omega)) (fun w' hb=>hK _ _ ⟨touch_below hb,rfl⟩)⟩),
   (fun _ _ _ _ _ _ _ kn=>sV (exec_catS rfl kn.1 kn.2.1 HL1.out)),
   (fun _ _ _ _ _ _ fr _=>sV (exec_move rfl fr.2.1)),
   (fun _ _ _ _ _ _ _ kn=>sV (exec_lenS rfl kn.1)),
   (fun _ _ _ _ _ _ _ kn=>sV (exec_conv rfl kn.1 (conv_iu HB1.out _))),
   (fun _ _ ww _ _ _ _ kn=>.inl ⟨trivial,fun K hK=>stepc enterEight rfl (args1 kn.1) (reight_run _ ww HB1.out) (fun w' hb=>hK _ _ ⟨touch_below hb,rfl⟩)⟩),
   (fun _ _ _ _ _ _ _ kn=>sV (exec_catS rfl kn.1 kn.2.1 HL2.out)),
   (fun _ _ _ _ _ _ fr _=>sV (exec_move rfl fr.2.2.1)),
   (fun _ _ _ _ _ _ _ kn=>sV (exec_lenS rfl kn.1)),
   (fun _ _ _ _ _ _ _ kn=>sV (exec_conv rfl kn.1 (conv_iu HB2.out _))),
   (fun _ _ ww _ _ _ _ kn=>.inl ⟨trivial,fun K hK=>stepc enterEight rfl (args1 kn.1) (reight_run _ ww HB2.out) (fun w' hb=>hK _ _ ⟨touch_below hb,rfl⟩)⟩),
   (fun _ _ _ _ _ _ _ kn=>sV (exec_catS rfl kn.1 kn.2.1 HL3.out)),
   (fun _ _ ww _ _ _ _ kn=>.inl ⟨trivial,fun K hK=>stepc enterRTag rfl (args2 kn.1 kn.2.1) (rTag_big (onceK key nonce) (marked under beside) ww HO.out HL4.out) (fun w' hb=>hK _ _ ⟨touch_below hb,rfl⟩)⟩),
   (fun _ _ _ _ _ _ _ _=>.inl ⟨trivial,fun K hK=>act_alloc zero16 rfl (fun w' hb hg=>hK _ _ ⟨touch_below hb,_,Nat.le_refl _,rfl,obIn hg⟩)⟩),
   (fun _ _ _ _ _ _ _ kn=>.inl ⟨trivial,fun K hK=>act_arr rfl isArr16 kn.1.1 kn.2.2.1 (obAt kn.2.1) (fun w2 hg ho=>hK _ _ ⟨touch_only ho,obIn hg,trivial⟩)⟩),
   trivial⟩ ?_
 intro vs4 own v4 hB4 hs4 kn inj
 clear inj hs4 go hB
 obtain ⟨k1,k2,-⟩:=kn
 obtain ⟨e11,hb11,_⟩:=k1
 change vs4 11=_ at e11
 have gM:ArrAt v4 (own 17) .u8 54 16 (digN (markN (onceK key nonce) (txt (marked under beside)) (marked under beside).size)):=obAt k2
 clear k2
 simp only[putAll,Act.put,List.setIfInBounds_toArray,List.set_cons_zero,List.set_cons_succ,e11]
 generalize own 17=b11 at *
 have hcv:(convert 81 9 (.slice (some ⟨b11,0,none⟩) 16 16)).run Tryz.prog v4=.ok (.string (markT key nonce under beside)) v4:=str_back 16 b11 16 v4 16 _ gM.row (fun j _=>digN_b _ j) rfl
 go_wp2_with fail
 go_ret
 exact ⟨rfl,hB4⟩
theorem shr_at (n:Int) (i:Nat) (hi:i<8) (w:World):(binOp .shr 98 (.int .u64 n) (.int .i64 (8*(i:Int)))).run Tryz.prog w=.ok (.int .u64 (n/256 ^ i)) w:=by
 match i,hi with
 | 0,_=>simp[go_sem]
 | 1,_=>simp[go_sem]
 | 2,_=>simp[go_sem]
 | 3,_=>simp[go_sem]
 | 4,_=>simp[go_sem]
 | 5,_=>simp[go_sem]
 | 6,_=>simp[go_sem]
 | 7,_=>simp[go_sem]
theorem exec_shrA {a:Act} {o:Oper} {w:World} {x y:Operand} (ho:o.op=.binOp .shr 98 x y 3) {n:Int} {i:Nat} (hx:a.eval x=.int .u64 n) (hy:a.eval y=.int .i64 (8*(i:Int))) (hi:i<8):(execOp a.eval o).run Tryz.prog w=.ok (.value (.int .u64 (n/256 ^ i))) w:=exec_bin2 ho hx hy rfl (shr_at n i hi w)
theorem lowest_run (n:Int) (w:World) :
  Calls Tryz.prog 152 #[.int .u64 n] w fun e w'=>e=.returned (.agg (WA .u8 8 (digN n)))∧Below w.heap.size w w':=by
 have g0:ArrAt ((w.alloc (.cells (WA .u8 8 fun _=>0) 177)).alloc (.cells (WA .u8 8 fun _=>0) 177)) w.heap.size .u8 177 8 (fun _=>0):=heap_alloc2_old w _ _
 have g1:ArrAt ((w.alloc (.cells (WA .u8 8 fun _=>0) 177)).alloc (.cells (WA .u8 8 fun _=>0) 177)) (w.heap.size+1) .u8 177 8 (fun _=>0):=heap_alloc2_new w _ _
 have hB:Below w.heap.size w ((w.alloc (.cells (WA .u8 8 fun _=>0) 177)).alloc (.cells (WA .u8 8 fun _=>0) 177)):=((Below.refl _ w).alloc (by simp) _).alloc (by simp) _
 go_enter Tryz.func152,Tryz.ntmps152
 go_wp2_with fail
 go_loopg [5] 8 (fun gm iv v=>∃ i:Nat,Hid (gm+i=8)∧iv=.int .i64 (i:Int)∧ArrAt v w.heap.size .u8 177 8 (fun _=>0)∧ArrAt v (w.heap.size+1) .u8 177 8 (fun j=>if j<i then digN n j else 0)∧Below w.heap.size w v)
 case atStart=>exact ⟨0,Hid.mk rfl,rfl,g0,g1.congr (fun j _=>by rw[if_neg (by omega)]),hB⟩
 case round =>
  clear g0 g1 hB
  obtain ⟨i,HI,rfl,g0,g1,hB⟩:=hrel
  have hi8:i≤8:=by have:=HI.out;omega
  by_cases hil:i<8
  ·have c0:=g1.cell i hil
   have f0:=g1.free i
   have g2:=Hid.mk ((g1.set i (n/256 ^ i%256) hil).congr (s':=fun j=>if j<i+1 then digN n j else 0) (fun j _=>by
    unfold upd
    by_cases e:j=i
    ·subst e;rw[if_pos rfl,if_pos (by omega)];rfl
    ·rw[if_neg e]
     show (if j<i then digN n j else 0)=_
     by_cases h:j<i
     ·rw[if_pos h,if_pos (by omega)]
     ·rw[if_neg h,if_neg (by omega)]))
   have g3:=Hid.mk (g0.only (only_set (w:=wr) (g:=w.heap.size+1) (i:=i) (v:=.int .u8 (n/256 ^ i%256))) (by omega))
   go_wp2_with (refine wl_value rfl (exec_shrA rfl (by rfl) (by rfl) hil) ?_)
   generalize n/256 ^ i=q at *
   go_wp2_with fail
   go_roundg (8-(i+1))
   case rel=>exact ⟨i+1,Hid.mk (by omega),by go_num,g3.out,g2.out,Below.setCell (p:=⟨w.heap.size+1,i,none⟩) hB (by simp) _⟩
   case measure=>have:=HI.out;omega
  ·have hi2:i=8:=by omega
   subst hi2
   replace g1:=g1.congr (s':=digN n) (fun j hj=>by rw[if_pos hj])
   go_wp2_with (first|(refine ld_arr isArr8 g1 (by rfl) ?_)|(refine st_arr isArr8 g0 (by rfl) (by rfl) ?_;intro v4 g4 o4;refine Hid.out ?_))
   refine Hid.mk ?_
   go_wp2_with fail
   exact bodyPost_ret (res_arr Tryz.results152 isArr8 g4 (by rfl)) rfl ⟨rfl,hB.trans (o4.below (Nat.le_refl _))⟩
def fillZ (s:ByteArray):ByteArray:=mkS ((16-s.size%16)%16) (fun _=>0)
theorem padZ_eq (s:ByteArray):padZ s=s++fillZ s:=rfl
theorem zeros_cut:∀ n,n<16→(⟨#[0,0,0,0,0,0,0,0,0,0,0,0,0,0,0,0]⟩:ByteArray).extract n 16=mkS (16-n) (fun _=>0):=by decide +kernel
theorem filling_run (s:ByteArray) (w:World) (hs:s.size≤1152921504606846976) :
  Calls Tryz.prog 187 #[.string s] w fun e w'=>e=.returned (.string (fillZ s))∧Below w.heap.size w w':=by
 obtain ⟨k,hk⟩:∃ k,s.size%16=k:=⟨_,rfl⟩
 have hk16:k<16:=by omega
 have h1:(s.size:Int).tmod 16=(k:Int):=by rw[Int.tmod_eq_emod_of_nonneg (by omega)];omega
 have h1e:(s.size:Int)%16=(k:Int):=by omega
 by_cases hz:k=0
 ·have HE:Hid (fillZ s=ByteArray.empty):=Hid.mk (by unfold fillZ;rw[hk,hz];rfl)
  subst hz
  go_enter Tryz.func187,Tryz.ntmps187
  go_wp2_with fail
  rw[HE.out]
  go_ret
  exact ⟨rfl,Below.refl _ _⟩
 ·have HE:Hid (fillZ s=mkS (16-k) (fun _=>0)):=Hid.mk (by unfold fillZ;rw[hk,Nat.mod_eq_of_lt (by omega)])
  have hkI:¬ (k:Int)=0:=by omega
  go_enter Tryz.func187,Tryz.ntmps187
  go_wp2_with (refine wl_value rfl (exec_slL (v:=.string ⟨#[0,0,0,0,0,0,0,0,0,0,0,0,0,0,0,0]⟩) (u:=.int .i64 (k:Int)) rfl (by rfl) (by rfl) (strL _ k _ (by show k≤16;omega))) ?_)
  rw[HE.out]
  go_ret
  exact ⟨congrArg (fun x=>Ending.returned (.string x)) (zeros_cut k hk16),Below.refl _ _⟩
theorem arr_range {w:World} {b n:Nat} {t:TypeId} {s:Nat→Int} (h:ArrAt w b .u8 t n s) (f m:Nat) (hf:f+m≤n):w.rangeAt b f (nums .u8 m fun j=>s (f+j)):=fun j v hv=>by
 obtain ⟨hj,rfl⟩:=nums_get hv
 exact h.cell (f+j) (by omega)
theorem exec_part {a:Act} {o:Oper} {w:World} {x:Operand} {ty t:TypeId} {b n m:Nat} {s:Nat→Int} (f:Nat) (ho:o.op=.load ty x) (hA:IsArr ty m) (hg:ArrAt w b .u8 t n s) (hf:f+m≤n) (hx:a.eval x=.pointer (some ⟨b,f,none⟩)):(execOp a.eval o).run Tryz.prog w=.ok (.value (.agg (WA .u8 m fun j=>s (f+j)))) w :=
 exec_ldmid ho hA hx (arr_range hg f m hf)
theorem exec_part0 {a:Act} {o:Oper} {w:World} {x:Operand} {ty t:TypeId} {b n m:Nat} {s:Nat→Int} (ho:o.op=.load ty x) (hA:IsArr ty m) (hg:ArrAt w b .u8 t n s) (hf:m≤n) (hx:a.eval x=.pointer (some ⟨b,0,none⟩)):(execOp a.eval o).run Tryz.prog w=.ok (.value (.agg (WA .u8 m s))) w :=
 exec_ldmid ho hA hx (fun j v hv=>by
  obtain ⟨hj,rfl⟩:=nums_get hv
  rw[Nat.zero_add]
  exact hg.cell j (by omega))
theorem exec_toarr {a:Act} {o:Oper} {w:World} {x:Operand} {t:TypeId} (ho:o.op=.sliceToArrayPointer t x) {v r:Value} (hx:a.eval x=v) (hr:(Instr.arrayAt t v).run Tryz.prog w=.ok r w):(execOp a.eval o).run Tryz.prog w=.ok (.value r) w:=by
 unfold execOp
 simp[ho,hx,hr]
theorem toarr32 (b f cap:Nat) (w:World):(Instr.arrayAt 22 (.slice (some ⟨b,f,none⟩) 32 cap)).run Tryz.prog w=.ok (.pointer (some ⟨b,f,none⟩)) w:=by simp[go_sem,Instr.arrayAt]
theorem keyOfMark_run (key nonce:Nat→Int) (w:World) (hk:Byts 32 key) (hn:Byts 12 nonce) :
  Calls Tryz.prog 189 #[.agg (WA .u8 32 key),.agg (WA .u8 12 nonce)] w fun e w'=>e=.returned (.agg (WA .u8 32 (onceK key nonce)))∧Below w.heap.size w w':=by
 have g0:ArrAt (((w.alloc (.cells (WA .u8 32 key) 22)).alloc (.cells (WA .u8 12 nonce) 26)).alloc (.cells (WA .u8 32 fun _=>0) 22)) w.heap.size .u8 22 32 key:=heap_a31 w _ _ _
 have g1:ArrAt (((w.alloc (.cells (WA .u8 32 key) 22)).alloc (.cells (WA .u8 12 nonce) 26)).alloc (.cells (WA .u8 32 fun _=>0) 22)) (w.heap.size+1) .u8 26 12 nonce:=heap_a32 w _ _ _
 have g2:ArrAt (((w.alloc (.cells (WA .u8 32 key) 22)).alloc (.cells (WA .u8 12 nonce) 26)).alloc (.cells (WA .u8 32 fun _=>0) 22)) (w.heap.size+1+1) .u8 22 32 (fun _=>0):=heap_a3 w _ _ _
 have hB:Below w.heap.size w (((w.alloc (.cells (WA .u8 32 key) 22)).alloc (.cells (WA .u8 12 nonce) 26)).alloc (.cells (WA .u8 32 fun _=>0) 22)):=(((Below.refl _ w).alloc (by simp) _).alloc (by simp) _).alloc (by simp;omega) _
 go_enter Tryz.func189,Tryz.ntmps189
 go_wp2_with (first|(refine ld_arr isArr32 g0 (by rfl) ?_)|(refine ld_arr isArr12 g1 (by rfl) ?_))
 refine (Block_run key nonce 0 _ hk hn (by unfold W32;omega)).mono ?_
 rintro e v2 ⟨rfl,hb2⟩
 replace hB:=hB.trans (hb2.mono hB.size)
 have hz:w.heap.size+1+1<v2.heap.size:=(g2.kept hb2).lt
 replace g2:=(g2.kept hb2)
 clear hb2 g0 g1
 have gn:=fun o (ho:o=Obj.cells (WA .u8 64 fun _=>0) 183 (0,0))=>(by rw[ho];exact heap_alloc_new v2 _:ArrAt (v2.alloc o) v2.heap.size .u8 183 64 (fun _=>0))
 have hBS:=hB.size
 go_wp2_with (refine st_arr isArr64 (gn _ rfl) (by rfl) (by rfl) ?_;intro v3 gb o3;refine Hid.out ?_)
 replace hB:=(hB.alloc hBS _).trans (o3.below hBS)
 replace g2:=(g2.alloc _).only o3 (by omega)
 clear o3 gn
 refine Hid.mk ?_
 go_wp2_with (first|(refine wl_value rfl (exec_toarr rfl (by rfl) (toarr32 _ 0 64 _)) ?_)|(refine wl_value rfl (exec_part0 rfl isArr32 gb (by omega) (by rfl)) ?_)|(refine st_arr isArr32 g2 (by rfl) (by rfl) ?_;intro v4 g4 o4;refine Hid.out ?_))
 refine Hid.mk ?_
 go_wp2_with fail
 have hE:WA .u8 32 (blk (ssq key 0 nonce 3))=WA .u8 32 (onceK key nonce):=WA_congr (fun j hj=>by
  unfold onceK over
  rw[if_pos (by omega),Nat.sub_zero])
 exact bodyPost_ret (res_arr Tryz.results189 isArr32 g4 (by rfl)) rfl ⟨by rw[hE],hB.trans (o4.below (by omega))⟩
def pc6 (ps:Nat→ByteArray) (j:Nat):ByteArray:=if j<4 then (if j%2=0 then ps (j/2) else fillZ (ps (j/2))) else mkS 8 (digN ((ps (j-4)).size:Int))
theorem join6 (under beside:ByteArray):joinB (pc6 (two2 beside under)) 6=marked under beside:=by
 simp[joinB,pc6,two2,marked,padZ_eq,ByteArray.append_assoc]
theorem pc6_even (ps:Nat→ByteArray) (i:Nat) (hi:i<2):∀ j,j<2→two2 (ps i) (fillZ (ps i)) j=pc6 ps (2*i+j):=fun j hj=>by
 unfold pc6
 rw[if_pos (by omega)]
 match j,hj with
 | 0,_=>rw[if_pos (by omega),show (2*i+0)/2=i by omega];rfl
 | 1,_=>rw[if_neg (by omega),show (2*i+1)/2=i by omega];rfl
theorem pc6_len (ps:Nat→ByteArray) (i:Nat):∀ j,j<1→one1 (mkS 8 (digN ((ps i).size:Int))) j=pc6 ps (4+i+j):=fun j hj=>by
 obtain rfl:j=0:=by omega
 unfold pc6
 rw[if_neg (by omega),show 4+i+0-4=i by omega]
 rfl
theorem markOf_run (key nonce:Nat→Int) (pv:Value) (ps:Nat→ByteArray) (w:World) (hk:Byts 32 key) (hn:Byts 12 nonce) (hv:Strs w pv 2 ps) (hps:∀ j,j<2→(ps j).size≤1152921504606846976) :
  Calls Tryz.prog 150 #[.agg (WA .u8 32 key),.agg (WA .u8 12 nonce),pv] w fun e w'=>e=.returned (.agg (WA .u8 16 (digN (markN (onceK key nonce) (txt (joinB (pc6 ps) 6)) (joinB (pc6 ps) 6).size))))∧Below w.heap.size w w':=by
 have g0:ArrAt (((w.alloc (.cells (WA .u8 32 key) 22)).alloc (.cells (WA .u8 12 nonce) 26)).alloc (.cells (WA .u8 16 fun _=>0) 54)) w.heap.size .u8 22 32 key:=heap_a31 w _ _ _
 have g1:ArrAt (((w.alloc (.cells (WA .u8 32 key) 22)).alloc (.cells (WA .u8 12 nonce) 26)).alloc (.cells (WA .u8 16 fun _=>0) 54)) (w.heap.size+1) .u8 26 12 nonce:=heap_a32 w _ _ _
 have g2:ArrAt (((w.alloc (.cells (WA .u8 32 key) 22)).alloc (.cells (WA .u8 12 nonce) 26)).alloc (.cells (WA .u8 16 fun _=>0) 54)) (w.heap.size+1+1) .u8 54 16 (fun _=>0):=heap_a3 w _ _ _
 have hB:Below w.heap.size w (((w.alloc (.cells (WA .u8 32 key) 22)).alloc (.cells (WA .u8 12 nonce) 26)).alloc (.cells (WA .u8 16 fun _=>0) 54)):=(((Below.refl _ w).alloc (by simp) _).alloc (by simp) _).alloc (by simp;omega) _
 have hv0:=hv.below hB
 obtain ⟨pa,pcp,rfl,_⟩:=hv
 go_enter Tryz.func150,Tryz.ntmps150
 go_wp2_with fail
 obtain ⟨u,hu⟩:∃ u,u=(((w.alloc (.cells (WA .u8 32 key) 22)).alloc (.cells (WA .u8 12 nonce) 26)).alloc (.cells (WA .u8 16 fun _=>0) 54)):=⟨_,rfl⟩
 rw[← hu] at g0 g1 g2 hB hv0
 go_loopg [7,15] 2 (fun gm sv iv v=>∃ i:Nat,Hid (gm+i=2)∧iv=.int .i64 (i:Int)∧v.ownsRow u.heap.size 9 1 sv (2*i) (strW (2*i) (pc6 ps))∧Below u.heap.size u v)
 case atStart=>exact ⟨0,Hid.mk rfl,rfl,World.ownsRow_nil _ _ _ _,by rw[hu];exact Below.refl _ _⟩
 case round =>
  clear hu
  obtain ⟨i,HI,rfl,hO,hb⟩:=hrel
  have hin:i≤2:=by have:=HI.out;omega
  by_cases hil:i<2
  ·obtain ⟨a',c',e,hp⟩:=hv0.below hb
   simp only[Value.slice.injEq] at e
   obtain ⟨rfl,_,rfl⟩:=e
   obtain ⟨p,rfl,hc⟩:=hp (by omega)
   have hc1:=hc i hil
   clear hc hp
   go_wp2_with fail
   refine (filling_run (ps i) _ (hps i hil)).mono ?_
   rintro e v1 ⟨rfl,hb1⟩
   replace hO:=own_kept hO hb1
   replace hb:=hb.trans (hb1.mono hb.size)
   clear hb1 hc1
   go_wp2_with (refine wl_bs2 (by rfl) (by rfl) ?_;intro v2 s2 hb2 hz2;refine Hid.out ?_)
   replace hO:=own_kept hO hb2
   replace hb:=hb.trans (hb2.mono hb.size)
   clear hb2 hz2
   have HBS:=Hid.mk hb.size
   refine Hid.mk ?_
   go_wp2_with (refine ap_strs (by rfl) (by rfl) hO s2 (by omega) HBS.out ?_;intro v' v3 hO3 hb3;refine Hid.out ?_)
   rw[strW_app (pc6_even ps i hil)] at hO3
   replace hb:=hb.trans hb3
   clear hO hb3 s2
   refine Hid.mk ?_
   go_wp2_with fail
   go_roundg (2-(i+1))
   case rel=>exact ⟨i+1,Hid.mk (by omega),by go_num,hO3,hb⟩
   case measure=>have:=HI.out;omega
  ·have hi2:i=2:=by omega
   subst hi2
   go_wp2_with fail
   go_loopg [7,28] 2 (fun gm sv iv v=>∃ i:Nat,Hid (gm+i=2)∧iv=.int .i64 (i:Int)∧v.ownsRow u.heap.size 9 1 sv (4+i) (strW (4+i) (pc6 ps))∧Below u.heap.size u v)
   case atStart=>exact ⟨0,Hid.mk rfl,rfl,hO,hb⟩
   case round =>
    clear hO hb HI hil hin
    obtain ⟨i,HI,rfl,hO,hb⟩:=hrel
    have hin:i≤2:=by have:=HI.out;omega
    by_cases hil:i<2
    ·obtain ⟨a',c',e,hp⟩:=hv0.below hb
     simp only[Value.slice.injEq] at e
     obtain ⟨rfl,_,rfl⟩:=e
     obtain ⟨p,rfl,hc⟩:=hp (by omega)
     have hc1:=hc i hil
     have hsz:0≤((ps i).size:Int)∧((ps i).size:Int)<18446744073709551616:=by have:=hps i hil;omega
     clear hc hp
     go_wp2_with (refine wl_value rfl (exec_conv rfl (by rfl) (conv_iu hsz _)) ?_)
     refine (lowest_run _ _).mono ?_
     rintro e v1 ⟨rfl,hb1⟩
     replace hO:=own_kept hO hb1
     replace hb:=hb.trans (hb1.mono hb.size)
     clear hb1 hc1
     have gn:=fun o (ho:o=Obj.cells (WA .u8 8 fun _=>0) 177 (0,0))=>(by rw[ho];exact heap_alloc_new v1 _:ArrAt (v1.alloc o) v1.heap.size .u8 177 8 (fun _=>0))
     have HBS:=Hid.mk hb.size
     go_wp2_with (refine st_arr isArr8 (gn _ rfl) (by rfl) (by rfl) ?_;intro v2 gb o2;refine Hid.out ?_)
     have hb2:Below v1.heap.size v1 v2:=((Below.refl _ v1).alloc (Nat.le_refl _) _).trans (o2.below (Nat.le_refl _))
     replace hO:=own_kept hO hb2
     replace hb:=hb.trans (hb2.mono hb.size)
     clear hb2 o2 gn HBS
     have hcv:=str_back 8 v1.heap.size 8 v2 8 (digN ((ps i).size:Int)) gb.row (fun j _=>digN_b _ j) rfl
     refine Hid.mk ?_
     go_wp2_with (refine wl_bs1 (by rfl) ?_;intro v3 s3 hb3 hz3;refine Hid.out ?_)
     replace hO:=own_kept hO hb3
     replace hb:=hb.trans (hb3.mono hb.size)
     clear hb3 hz3 hcv gb
     have HBS:=Hid.mk hb.size
     refine Hid.mk ?_
     go_wp2_with (refine ap_strs (by rfl) (by rfl) hO s3 (by omega) HBS.out ?_;intro v' v4 hO4 hb4;refine Hid.out ?_)
     rw[strW_app (pc6_len ps i)] at hO4
     replace hb:=hb.trans hb4
     clear hO hb4 s3
     refine Hid.mk ?_
     go_wp2_with fail
     go_roundg (2-(i+1))
     case rel=>exact ⟨i+1,Hid.mk (by omega),by go_num,hO4,hb⟩
     case measure=>have:=HI.out;omega
    ·have hi2:i=2:=by omega
     subst hi2
     have gk:=g0.kept hb
     have gq:=g1.kept hb
     have gr:=g2.kept hb
     have hSt:=own_Strs hO (by omega)
     replace hB:=hB.trans (hb.mono hB.size)
     clear hb hO g0 g1 g2
     go_wp2_with (first|(refine ld_arr isArr32 gk (by rfl) ?_)|(refine ld_arr isArr12 gq (by rfl) ?_))
     refine (keyOfMark_run key nonce _ hk hn).mono ?_
     rintro e v5 ⟨rfl,hb5⟩
     replace gr:=gr.kept hb5
     replace hB:=hB.trans (hb5.mono hB.size)
     replace hSt:=hSt.below hb5
     clear hb5 gk gq
     go_wp2_with fail
     refine (Tag_run (onceK key nonce) _ 6 (pc6 ps) _ (onceK_b key nonce) hSt (by decide)).mono ?_
     rintro e v6 ⟨rfl,hb6⟩
     replace gr:=gr.kept hb6
     replace hB:=hB.trans (hb6.mono hB.size)
     clear hb6 hSt
     go_wp2_with (refine st_arr isArr16 gr (by rfl) (by rfl) ?_;intro v7 g7 o7;refine Hid.out ?_)
     refine Hid.mk ?_
     go_wp2_with fail
     exact bodyPost_ret (res_arr Tryz.results150 isArr16 g7 (by rfl)) rfl ⟨rfl,hB.trans (o7.below (by omega))⟩
def underT (key nonce:Nat→Int) (text:ByteArray):ByteArray:=mkS text.size (strm key nonce 1 text)
def boxT (key nonce:Nat→Int) (text beside:ByteArray):ByteArray:=underT key nonce text++markT key nonce (underT key nonce text) beside
theorem underT_size (key nonce:Nat→Int) (text:ByteArray):(underT key nonce text).size=text.size:=mkS_size _ _
theorem markT_size (key nonce:Nat→Int) (under beside:ByteArray):(markT key nonce under beside).size=16:=mkS_size _ _
theorem boxT_size (key nonce:Nat→Int) (text beside:ByteArray):(boxT key nonce text beside).size=text.size+16:=by
 unfold boxT
 rw[ByteArray.size_append,underT_size,markT_size]
theorem rSeal_run (key nonce:Nat→Int) (text beside:ByteArray) (w:World) (hk:Byts 32 key) (hn:Byts 12 nonce) (ht:text.size≤140737488355328) (hbs:beside.size≤281474976710656) :
  Calls Tryz.prog 85 #[.agg (WA .u8 32 key),.agg (WA .u8 12 nonce),.string text,.string beside] w fun e w'=>e=.returned (.string (boxT key nonce text beside))∧Below w.heap.size w w':=by
 have g0:ArrAt ((w.alloc (.cells (WA .u8 32 key) 22)).alloc (.cells (WA .u8 12 nonce) 26)) w.heap.size .u8 22 32 key:=heap_alloc2_old w _ _
 have g1:ArrAt ((w.alloc (.cells (WA .u8 32 key) 22)).alloc (.cells (WA .u8 12 nonce) 26)) (w.heap.size+1) .u8 26 12 nonce:=heap_alloc2_new w _ _
 have hB:Below w.heap.size w ((w.alloc (.cells (WA .u8 32 key) 22)).alloc (.cells (WA .u8 12 nonce) 26)):=((Below.refl _ w).alloc (by simp) _).alloc (by simp) _
 have hS:=fun w=>rStream_run key nonce 1 text w hk hn (by unfold W32;omega) ht
 have hM:=fun w=>rmark_run key nonce (underT key nonce text) beside w hk hn (by rw[underT_size];omega) hbs
 have HE:Hid (underT key nonce text++markT key nonce (underT key nonce text) beside=boxT key nonce text beside):=Hid.mk rfl
 have hL1:(underT key nonce text).size+(markT key nonce (underT key nonce text) beside).size≤9223372036854775807:=by rw[underT_size,markT_size];omega
 change ∀ w,Calls _ _ _ w fun e w'=>e=.returned (.string (underT key nonce text))∧Below w.heap.size w w' at hS
 generalize markT key nonce (underT key nonce text) beside=m at *
 generalize underT key nonce text=u at *
 clear ht
 go_enter Tryz.func85,Tryz.ntmps85
 go_wp2_with (first|(refine ld_arr isArr32 g0 (by rfl) ?_)|(refine ld_arr isArr12 g1 (by rfl) ?_))
 refine (hS _).mono ?_
 rintro e v1 ⟨rfl,hb⟩
 replace g0:=g0.kept hb
 replace g1:=g1.kept hb
 replace hB:=hB.trans (hb.mono hB.size)
 clear hb
 go_wp2_with (first|(refine ld_arr isArr32 g0 (by rfl) ?_)|(refine ld_arr isArr12 g1 (by rfl) ?_))
 refine (hM _).mono ?_
 rintro e v2 ⟨rfl,hb⟩
 replace hB:=hB.trans (hb.mono hB.size)
 clear hb
 go_wp2_with (refine wl_value rfl (exec_catS rfl (by rfl) (by rfl) hL1) ?_)
 rw[HE.out]
 go_ret
 exact ⟨rfl,hB⟩
theorem enterRMark (args:Array Value) (w:World):(callFunc 129 args).run Tryz.prog w=.ok (.enter 129 args) w:=by kernel_rfl
theorem enterRStream (args:Array Value) (w:World):(callFunc 128 args).run Tryz.prog w=.ok (.enter 128 args) w:=by kernel_rfl
theorem exec_lssT0 {a:Act} {o:Oper} {w:World} {x y:Operand} (ho:o.op=.binOp .lss 3 x y 3) {m n:Int} (hx:a.eval x=.int .i64 m) (hy:a.eval y=.int .i64 n) (h:m<n):(execOp a.eval o).run Tryz.prog w=.ok (.value (.bool true)) w:=exec_bin ho rfl hx hy (by simp[go_sem,h])
theorem exec_lssF0 {a:Act} {o:Oper} {w:World} {x y:Operand} (ho:o.op=.binOp .lss 3 x y 3) {m n:Int} (hx:a.eval x=.int .i64 m) (hy:a.eval y=.int .i64 n) (h:n≤m):(execOp a.eval o).run Tryz.prog w=.ok (.value (.bool false)) w:=exec_bin ho rfl hx hy (by simp[go_sem];omega)
def openT (key nonce:Nat→Int) (box beside:ByteArray):ByteArray×Int :=
 if 16≤box.size∧box.extract (box.size-16) box.size=markT key nonce (box.extract 0 (box.size-16)) beside then (underT key nonce (box.extract 0 (box.size-16)),0) else (ByteArray.empty,13)
theorem rOpen_run (key nonce:Nat→Int) (box beside:ByteArray) (w:World) (hk:Byts 32 key) (hn:Byts 12 nonce) (ht:box.size≤140737488355328) (hbs:beside.size≤281474976710656) :
  Calls Tryz.prog 90 #[.agg (WA .u8 32 key),.agg (WA .u8 12 nonce),.string box,.string beside] w fun e w'=>e=.returned (.tuple #[.string (openT key nonce box beside).1,.int .i64 (openT key nonce box beside).2])∧Below w.heap.size w w':=by
 have g0:ArrAt ((w.alloc (.cells (WA .u8 32 key) 22)).alloc (.cells (WA .u8 12 nonce) 26)) w.heap.size .u8 22 32 key:=heap_alloc2_old w _ _
 have g1:ArrAt ((w.alloc (.cells (WA .u8 32 key) 22)).alloc (.cells (WA .u8 12 nonce) 26)) (w.heap.size+1) .u8 26 12 nonce:=heap_alloc2_new w _ _
 have hB:Below w.heap.size w ((w.alloc (.cells (WA .u8 32 key) 22)).alloc (.cells (WA .u8 12 nonce) 26)):=((Below.refl _ w).alloc (by simp) _).alloc (by simp) _
 by_cases h16:16≤box.size
 ·obtain ⟨n,hnn⟩:∃ n,box.size=n+16:=⟨box.size-16,by omega⟩
  have hnI:(box.size:Int)-16=(n:Int):=by omega
  have hnw:=i64_wrap (n:=(n:Int)) (by omega) (by omega)
  have HNB:Hid (n≤box.size):=Hid.mk (by omega)
  have hU:=take_size box n (by omega)
  have HMK:Hid (∀ ww:World,Calls Tryz.prog 129 #[.agg (WA .u8 32 key),.agg (WA .u8 12 nonce),.string (box.extract 0 n),.string beside] ww fun e w'=>e=.returned (.string (markT key nonce (box.extract 0 n) beside))∧Below ww.heap.size ww w'):=Hid.mk (fun ww=>rmark_run key nonce _ beside ww hk hn (by omega) hbs)
  have HST:Hid (∀ ww:World,Calls Tryz.prog 128 #[.agg (WA .u8 32 key),.int .u32 1,.agg (WA .u8 12 nonce),.string (box.extract 0 n)] ww fun e w'=>e=.returned (.string (underT key nonce (box.extract 0 n)))∧Below ww.heap.size ww w'):=Hid.mk (fun ww=>rStream_run key nonce 1 _ ww hk hn (by unfold W32;omega) (by omega))
  have hsub:box.size-16=n:=by omega
  by_cases heq:(box.extract n box.size)=markT key nonce (box.extract 0 n) beside
  ·have HEQ:=Hid.mk heq
   have HR:Hid (openT key nonce box beside=(underT key nonce (box.extract 0 n),0)):=Hid.mk (by unfold openT;rw[hsub,if_pos ⟨h16,heq⟩])
   clear heq hsub hU hnn
   go_enter Tryz.func90,Tryz.ntmps90
   go_wp2_with fail
   refine wp_gen (fun v=>ArrAt v w.heap.size .u8 22 32 key∧ArrAt v (w.heap.size+1) .u8 26 12 nonce∧Below w.heap.size w v) ⟨g0,g1,hB⟩ ?_
   clear g0 g1 hB
   rintro v0 ⟨g0,g1,hB⟩
   have HG0:Hid (∀ u,Below v0.heap.size v0 u→ArrAt u w.heap.size .u8 22 32 key):=Hid.mk (fun u hu=>g0.kept hu)
   have HG1:Hid (∀ u,Below v0.heap.size v0 u→ArrAt u (w.heap.size+1) .u8 26 12 nonce):=Hid.mk (fun u hu=>g1.kept hu)
   refine wp_region3 (Below v0.heap.size v0) v0.heap.size
     ([]:List (Nat×Cont))
     [kv (.int .i64 (n:Int)),kv (.bool false),kv (.bool false),kv (.string box),kv (.int .i64 (n:Int)),kv (.string (box.extract n box.size)),kv (.agg (WA .u8 32 key)),kv (.agg (WA .u8 12 nonce)),kv (.string box),kv (.int .i64 (n:Int)),kv (.string (box.extract 0 n)),kv (.string beside),kv (.string (markT key nonce (box.extract 0 n) beside)),kv (.bool false),kv (.bool false)]
     [.none,.none,.none,.none,.none,.none,.none,.none,.none,.none,.none,.none,.none,.none,.none]
     [some 14,some 15,some 16,some 17,some 18,some 19,some 20,some 21,some 22,some 23,some 24,some 25,some 26,some 27,some 28]
     [(10,.int .i64 (n:Int)),(2,.string box),(4,.pointer (some ⟨w.heap.size,0,none⟩)),(5,.pointer (some ⟨(w.heap.size+1),0,none⟩)),(3,.string beside)]
     [[],[.slot 0],[.slot 1],[.slot 2],[.slot 2],[.slot 2,.slot 3,.slot 4],[.slot 2],[.slot 2],[.slot 2],[.slot 2],[.slot 2,.slot 8,.slot 9],[.slot 2],[.slot 2,.slot 6,.slot 7,.slot 10,.slot 11],[.slot 2,.slot 5,.slot 12],[.slot 2,.slot 13]]
     [.slot 14] [14,15,16,17,18,19,20,21,22,23,24,25,26,27,28]
     rfl (by kernel_rfl) ⟨rfl,rfl,rfl,rfl,rfl,trivial⟩ (Below.refl _ v0).drew (Nat.le_refl _) trivial trivial (below_G (Nat.le_refl _) trivial)
     ⟨
      (fun _ _ _ _ _ _ fr _=>sV (exec_move rfl fr.1)),
      (fun _ _ _ _ _ _ _ kn=>sV (exec_lssF0 rfl kn.1 rfl (by omega))),
      (fun _ _ _ _ _ _ _ kn=>sV (exec_move rfl kn.1)),
      (fun _ _ _ _ _ _ fr kn=>sG kn.1 (exec_move rfl fr.2.1)),
      (fun _ _ _ _ _ _ fr kn=>sG kn.1 (exec_move rfl fr.1)),
      (fun _ _ ww _ _ _ _ kn=>sG kn.1 (exec_slL rfl kn.2.1 kn.2.2.1 (strL box n ww HNB.out))),
      (fun _ _ ww _ hS _ fr kn=>sG kn.1 (look_arr rfl isArr32 (HG0.out ww hS) fr.2.2.1)),
      (fun _ _ ww _ hS _ fr kn=>sG kn.1 (look_arr rfl isArr12 (HG1.out ww hS) fr.2.2.2.1)),
      (fun _ _ _ _ _ _ fr kn=>sG kn.1 (exec_move rfl fr.2.1)),
      (fun _ _ _ _ _ _ fr kn=>sG kn.1 (exec_move rfl fr.1)),
      (fun _ _ ww _ _ _ _ kn=>sG kn.1 (exec_slH rfl kn.2.1 kn.2.2.1 (strH box n ww HNB.out))),
      (fun _ _ _ _ _ _ fr kn=>sG kn.1 (exec_move rfl fr.2.2.2.2.1)),
      (fun _ _ ww _ _ _ _ kn=>.inl ⟨kn.1,fun K hK=>stepc enterRMark rfl (args4 kn.2.1 kn.2.2.1 kn.2.2.2.1 kn.2.2.2.2.1) (HMK.out ww) (fun w' hb=>hK _ _ ⟨touch_below hb,rfl⟩)⟩),
      (fun _ _ _ _ _ _ _ kn=>sG kn.1 (exec_neqS rfl kn.2.1 kn.2.2.1 HEQ.out)),
      (fun _ _ _ _ _ _ _ kn=>sV (exec_pickF rfl kn.1 kn.2.1)),
      trivial⟩ ?_
   intro vs own v5 hB5 hs5 kn inj
   clear inj hs5
   replace g0:=g0.kept hB5
   replace g1:=g1.kept hB5
   replace hB:=hB.trans (hB5.mono hB.size)
   have e28:vs 28=.bool false:=kn.1
   clear kn hB5 HG0 HG1
   simp only[putAll,Act.put,List.setIfInBounds_toArray,List.set_cons_zero,List.set_cons_succ,e28]
   go_wp2_with fail
   refine wp_gen (fun v=>ArrAt v w.heap.size .u8 22 32 key∧ArrAt v (w.heap.size+1) .u8 26 12 nonce∧Below w.heap.size w v) ⟨g0,g1,hB⟩ ?_
   clear g0 g1 hB
   rintro v0 ⟨g0,g1,hB⟩
   have HG0:Hid (∀ u,Below v0.heap.size v0 u→ArrAt u w.heap.size .u8 22 32 key):=Hid.mk (fun u hu=>g0.kept hu)
   have HG1:Hid (∀ u,Below v0.heap.size v0 u→ArrAt u (w.heap.size+1) .u8 26 12 nonce):=Hid.mk (fun u hu=>g1.kept hu)
   refine wp_region3 (Below v0.heap.size v0) v0.heap.size
     ([]:List (Nat×Cont))
     [kv (.agg (WA .u8 32 key)),kv (.agg (WA .u8 12 nonce)),kv (.string box),kv (.int .i64 (n:Int)),kv (.string (box.extract 0 n)),kv (.string (underT key nonce (box.extract 0 n))),kv (.string (underT key nonce (box.extract 0 n))),kv (.int .i64 0)]
     [.none,.none,.none,.none,.none,.none,.none,.none]
     [some 29,some 30,some 31,some 32,some 33,some 34,some 8,some 9]
     [(4,.pointer (some ⟨w.heap.size,0,none⟩)),(5,.pointer (some ⟨(w.heap.size+1),0,none⟩)),(2,.string box),(10,.int .i64 (n:Int))]
     [[],[],[],[],[.slot 2,.slot 3],[.slot 0,.slot 1,.slot 4],[.slot 5],[]]
     [.slot 6,.slot 7] [29,30,31,32,33,34,8,9]
     rfl (by kernel_rfl) ⟨rfl,rfl,rfl,rfl,trivial⟩ (Below.refl _ v0).drew (Nat.le_refl _) trivial trivial (below_G (Nat.le_refl _) trivial)
     ⟨
      (fun _ _ ww _ hS _ fr _=>sV (look_arr rfl isArr32 (HG0.out ww hS) fr.1)),
      (fun _ _ ww _ hS _ fr _=>sV (look_arr rfl isArr12 (HG1.out ww hS) fr.2.1)),
      (fun _ _ _ _ _ _ fr _=>sV (exec_move rfl fr.2.2.1)),
      (fun _ _ _ _ _ _ fr _=>sV (exec_move rfl fr.2.2.2.1)),
      (fun _ _ ww _ _ _ _ kn=>sV (exec_slH rfl kn.1 kn.2.1 (strH box n ww HNB.out))),
      (fun _ _ ww _ _ _ _ kn=>.inl ⟨trivial,fun K hK=>stepc enterRStream rfl (args4 kn.1 rfl kn.2.1 kn.2.2.1) (HST.out ww) (fun w' hb=>hK _ _ ⟨touch_below hb,rfl⟩)⟩),
      (fun _ _ _ _ _ _ _ kn=>sV (exec_assign rfl kn.1)),
      (fun _ _ _ _ _ _ _ _=>sV (exec_assign (v:=.int .i64 0) rfl rfl)),
      trivial⟩ ?_
   intro vs own v5 hB5 hs5 kn inj
   have e8:vs 8=_:=kn.1
   have e9:vs 9=_:=kn.2.1
   simp only[putAll,Act.put,List.setIfInBounds_toArray,List.set_cons_zero,List.set_cons_succ,e8,e9]
   go_wp2_with fail
   exact bodyPost_ret (v:=.tuple #[.string (underT key nonce (box.extract 0 n)),.int .i64 0]) (results_two Tryz.results90 (by rfl) (by rfl)) rfl ⟨by rw[HR.out],hB.trans (hB5.mono hB.size)⟩
  ·have HEQ:=Hid.mk heq
   have HR:Hid (openT key nonce box beside=(ByteArray.empty,13)):=Hid.mk (by unfold openT;rw[hsub,if_neg (fun h=>heq h.2)])
   clear heq hsub hU hnn
   go_enter Tryz.func90,Tryz.ntmps90
   go_wp2_with fail
   refine wp_gen (fun v=>ArrAt v w.heap.size .u8 22 32 key∧ArrAt v (w.heap.size+1) .u8 26 12 nonce∧Below w.heap.size w v) ⟨g0,g1,hB⟩ ?_
   clear g0 g1 hB
   rintro v0 ⟨g0,g1,hB⟩
   have HG0:Hid (∀ u,Below v0.heap.size v0 u→ArrAt u w.heap.size .u8 22 32 key):=Hid.mk (fun u hu=>g0.kept hu)
   have HG1:Hid (∀ u,Below v0.heap.size v0 u→ArrAt u (w.heap.size+1) .u8 26 12 nonce):=Hid.mk (fun u hu=>g1.kept hu)
   refine wp_region3 (Below v0.heap.size v0) v0.heap.size
     ([]:List (Nat×Cont))
     [kv (.int .i64 (n:Int)),kv (.bool false),kv (.bool false),kv (.string box),kv (.int .i64 (n:Int)),kv (.string (box.extract n box.size)),kv (.agg (WA .u8 32 key)),kv (.agg (WA .u8 12 nonce)),kv (.string box),kv (.int .i64 (n:Int)),kv (.string (box.extract 0 n)),kv (.string beside),kv (.string (markT key nonce (box.extract 0 n) beside)),kv (.bool true),kv (.bool true)]
     [.none,.none,.none,.none,.none,.none,.none,.none,.none,.none,.none,.none,.none,.none,.none]
     [some 14,some 15,some 16,some 17,some 18,some 19,some 20,some 21,some 22,some 23,some 24,some 25,some 26,some 27,some 28]
     [(10,.int .i64 (n:Int)),(2,.string box),(4,.pointer (some ⟨w.heap.size,0,none⟩)),(5,.pointer (some ⟨(w.heap.size+1),0,none⟩)),(3,.string beside)]
     [[],[.slot 0],[.slot 1],[.slot 2],[.slot 2],[.slot 2,.slot 3,.slot 4],[.slot 2],[.slot 2],[.slot 2],[.slot 2],[.slot 2,.slot 8,.slot 9],[.slot 2],[.slot 2,.slot 6,.slot 7,.slot 10,.slot 11],[.slot 2,.slot 5,.slot 12],[.slot 2,.slot 13]]
     [.slot 14] [14,15,16,17,18,19,20,21,22,23,24,25,26,27,28]
     rfl (by kernel_rfl) ⟨rfl,rfl,rfl,rfl,rfl,trivial⟩ (Below.refl _ v0).drew (Nat.le_refl _) trivial trivial (below_G (Nat.le_refl _) trivial)
     ⟨
      (fun _ _ _ _ _ _ fr _=>sV (exec_move rfl fr.1)),
      (fun _ _ _ _ _ _ _ kn=>sV (exec_lssF0 rfl kn.1 rfl (by omega))),
      (fun _ _ _ _ _ _ _ kn=>sV (exec_move rfl kn.1)),
      (fun _ _ _ _ _ _ fr kn=>sG kn.1 (exec_move rfl fr.2.1)),
      (fun _ _ _ _ _ _ fr kn=>sG kn.1 (exec_move rfl fr.1)),
      (fun _ _ ww _ _ _ _ kn=>sG kn.1 (exec_slL rfl kn.2.1 kn.2.2.1 (strL box n ww HNB.out))),
      (fun _ _ ww _ hS _ fr kn=>sG kn.1 (look_arr rfl isArr32 (HG0.out ww hS) fr.2.2.1)),
      (fun _ _ ww _ hS _ fr kn=>sG kn.1 (look_arr rfl isArr12 (HG1.out ww hS) fr.2.2.2.1)),
      (fun _ _ _ _ _ _ fr kn=>sG kn.1 (exec_move rfl fr.2.1)),
      (fun _ _ _ _ _ _ fr kn=>sG kn.1 (exec_move rfl fr.1)),
      (fun _ _ ww _ _ _ _ kn=>sG kn.1 (exec_slH rfl kn.2.1 kn.2.2.1 (strH box n ww HNB.out))),
      (fun _ _ _ _ _ _ fr kn=>sG kn.1 (exec_move rfl fr.2.2.2.2.1)),
      (fun _ _ ww _ _ _ _ kn=>.inl ⟨kn.1,fun K hK=>stepc enterRMark rfl (args4 kn.2.1 kn.2.2.1 kn.2.2.2.1 kn.2.2.2.2.1) (HMK.out ww) (fun w' hb=>hK _ _ ⟨touch_below hb,rfl⟩)⟩),
      (fun _ _ _ _ _ _ _ kn=>sG kn.1 (exec_neqST rfl kn.2.1 kn.2.2.1 HEQ.out)),
      (fun _ _ _ _ _ _ _ kn=>sV (exec_pickF rfl kn.1 kn.2.1)),
      trivial⟩ ?_
   intro vs own v5 hB5 hs5 kn inj
   clear inj hs5
   replace g0:=g0.kept hB5
   replace g1:=g1.kept hB5
   replace hB:=hB.trans (hB5.mono hB.size)
   have e28:vs 28=.bool true:=kn.1
   clear kn hB5 HG0 HG1
   simp only[putAll,Act.put,List.setIfInBounds_toArray,List.set_cons_zero,List.set_cons_succ,e28]
   go_wp2_with fail
   exact bodyPost_ret (v:=.tuple #[.string ByteArray.empty,.int .i64 13]) (results_two Tryz.results90 (by rfl) (by rfl)) rfl ⟨by rw[HR.out],hB⟩
 ·have HR:Hid (openT key nonce box beside=(ByteArray.empty,13)):=Hid.mk (by unfold openT;rw[if_neg (fun h=>h16 h.1)])
  have hnw:=i64_wrap (n:=(box.size:Int)-16) (by omega) (by omega)
  go_enter Tryz.func90,Tryz.ntmps90
  go_wp2_with fail
  refine wp_gen (fun v=>ArrAt v w.heap.size .u8 22 32 key∧ArrAt v (w.heap.size+1) .u8 26 12 nonce∧Below w.heap.size w v) ⟨g0,g1,hB⟩ ?_
  clear g0 g1 hB
  rintro v0 ⟨g0,g1,hB⟩
  have HG0:Hid (∀ u,Below v0.heap.size v0 u→ArrAt u w.heap.size .u8 22 32 key):=Hid.mk (fun u hu=>g0.kept hu)
  have HG1:Hid (∀ u,Below v0.heap.size v0 u→ArrAt u (w.heap.size+1) .u8 26 12 nonce):=Hid.mk (fun u hu=>g1.kept hu)
  refine wp_region3 (Below v0.heap.size v0) v0.heap.size
    ([]:List (Nat×Cont))
    [kv (.int .i64 ((box.size:Int)-16)),kv (.bool true),kv (.bool true),.val fun _=>True,.val fun _=>True,.val fun _=>True,.val fun _=>True,.val fun _=>True,.val fun _=>True,.val fun _=>True,.val fun _=>True,.val fun _=>True,.val fun _=>True,.val fun _=>True,kv (.bool true)]
    [.none,.none,.none,.none,.none,.none,.none,.none,.none,.none,.none,.none,.none,.none,.none]
    [some 14,some 15,some 16,some 17,some 18,some 19,some 20,some 21,some 22,some 23,some 24,some 25,some 26,some 27,some 28]
    [(10,.int .i64 ((box.size:Int)-16))]
    [[],[.slot 0],[.slot 1],[.slot 2],[.slot 2],[.slot 2],[.slot 2],[.slot 2],[.slot 2],[.slot 2],[.slot 2],[.slot 2],[.slot 2],[.slot 2],[.slot 2]]
    [.slot 14] [14,15,16,17,18,19,20,21,22,23,24,25,26,27,28]
    rfl (by kernel_rfl) ⟨rfl,trivial⟩ (Below.refl _ v0).drew (Nat.le_refl _) trivial trivial (below_G (Nat.le_refl _) trivial)
    ⟨
     (fun _ _ _ _ _ _ fr _=>sV (exec_move rfl fr.1)),
     (fun _ _ _ _ _ _ _ kn=>sV (exec_lssT0 rfl kn.1 rfl (by omega))),
     (fun _ _ _ _ _ _ _ kn=>sV (exec_move rfl kn.1)),
     (fun _ _ _ _ _ _ _ kn=>.inr ⟨.inl kn.1,Touch.refl _ _,trivial⟩),
     (fun _ _ _ _ _ _ _ kn=>.inr ⟨.inl kn.1,Touch.refl _ _,trivial⟩),
     (fun _ _ _ _ _ _ _ kn=>.inr ⟨.inl kn.1,Touch.refl _ _,trivial⟩),
     (fun _ _ _ _ _ _ _ kn=>.inr ⟨.inl kn.1,Touch.refl _ _,trivial⟩),
     (fun _ _ _ _ _ _ _ kn=>.inr ⟨.inl kn.1,Touch.refl _ _,trivial⟩),
     (fun _ _ _ _ _ _ _ kn=>.inr ⟨.inl kn.1,Touch.refl _ _,trivial⟩),
     (fun _ _ _ _ _ _ _ kn=>.inr ⟨.inl kn.1,Touch.refl _ _,trivial⟩),
     (fun _ _ _ _ _ _ _ kn=>.inr ⟨.inl kn.1,Touch.refl _ _,trivial⟩),
     (fun _ _ _ _ _ _ _ kn=>.inr ⟨.inl kn.1,Touch.refl _ _,trivial⟩),
     (fun _ _ _ _ _ _ _ kn=>.inr ⟨.inl kn.1,Touch.refl _ _,trivial⟩),
     (fun _ _ _ _ _ _ _ kn=>.inr ⟨.inl kn.1,Touch.refl _ _,trivial⟩),
     (fun _ _ _ _ _ _ _ kn=>sV (exec_pick (v:=.bool true) rfl kn.1 rfl)),
     trivial⟩ ?_
  intro vs own v5 hB5 hs5 kn inj
  clear inj hs5
  replace g0:=g0.kept hB5
  replace g1:=g1.kept hB5
  replace hB:=hB.trans (hB5.mono hB.size)
  have e28:vs 28=.bool true:=kn.1
  clear kn hB5 HG0 HG1
  simp only[putAll,Act.put,List.setIfInBounds_toArray,List.set_cons_zero,List.set_cons_succ,e28]
  go_wp2_with fail
  exact bodyPost_ret (v:=.tuple #[.string ByteArray.empty,.int .i64 13]) (results_two Tryz.results90 (by rfl) (by rfl)) rfl ⟨by rw[HR.out],hB⟩
theorem differ_next (d:Int) (x y:UInt8) (hd:0≤d∧d<256):∃ e:Int,bits .or .u8 d (bits .xor .u8 (x.toNat:Int) (y.toNat:Int))=e∧(0≤e∧e<256)∧(e=0↔d=0∧x=y):=by
 refine ⟨_,rfl,?_⟩
 have hx:x.toNat<256:=x.toNat_lt
 have hy:y.toNat<256:=y.toNat_lt
 have h1:=Nat.xor_lt_two_pow (x:=x.toNat) (y:=y.toNat) (n:=8) hx hy
 have h2:=Nat.or_lt_two_pow (x:=d.toNat) (y:=x.toNat ^^^ y.toNat) (n:=8) (by omega) h1
 rw[u8_xor_nat _ _ hx hy,u8_or _ _ hd.1 hd.2 (by omega) (by omega),Int.toNat_natCast]
 refine ⟨⟨by omega,by omega⟩,?_⟩
 have h3:((d.toNat ||| (x.toNat ^^^ y.toNat):Nat):Int)=0↔d.toNat=0∧x.toNat=y.toNat:=by
  rw[Int.natCast_eq_zero,Nat.or_eq_zero_iff,xor_zero]
 rw[h3,UInt8.toNat_inj]
 exact ⟨fun h=>⟨by omega,h.2⟩,fun h=>⟨by omega,h.2⟩⟩
theorem Same_run (a b:ByteArray) (w:World) (ha:a.size≤1152921504606846976) :
  Calls Tryz.prog 63 #[.string a,.string b] w fun e w'=>e=.returned (.bool (decide (a=b)))∧Below w.heap.size w w':=by
 by_cases hl:a.size=b.size
 ·have hlI:(a.size:Int)=(b.size:Int):=by omega
  have hB:=Below.refl w.heap.size w
  go_enter Tryz.func63,Tryz.ntmps63
  go_wp2_with fail
  go_loopg [5,14] a.size (fun gm dv iv v=>∃ (i:Nat) (d:Int),Hid (gm+i=a.size)∧iv=.int .i64 (i:Int)∧dv=.int .u8 d∧(0≤d∧d<256)∧Hid (d=0↔∀ j,j<i→txt a j=txt b j)∧Below w.heap.size w v)
  case atStart=>exact ⟨0,0,Hid.mk rfl,rfl,rfl,by omega,Hid.mk ⟨fun _ j hj=>by omega,fun _=>rfl⟩,hB⟩
  case round =>
   clear hB
   obtain ⟨i,d,HI,rfl,rfl,hd,HD,hB⟩:=hrel
   have hi8:i≤a.size:=by have:=HI.out;omega
   by_cases hil:i<a.size
   ·have hib:i<b.size:=by omega
    obtain ⟨e,he,he2,he3⟩:=differ_next d a[i] b[i] hd
    have HE:Hid (e=0↔∀ j,j<i+1→txt a j=txt b j):=Hid.mk (by
     have t1:(a[i]=b[i])↔txt a i=txt b i:=by
      rw[← txt_get hil,← txt_get hib]
      constructor
      ·intro h;rw[h]
      ·intro h;exact UInt8.toNat_inj.1 (by omega)
     rw[he3,HD.out,t1]
     constructor
     ·rintro ⟨h1,h2⟩ j hj
      by_cases e:j=i
      ·rw[e];exact h2
      ·exact h1 j (by omega)
     ·intro h
      exact ⟨fun j hj=>h j (by omega),h i (by omega)⟩)
    clear he3 HD
    go_wp2_with fail
    go_region
    clear he
    replace hB:=hB.drew
    generalize wr.drew=wr2 at *
    go_wp2_with fail
    go_roundg (a.size-(i+1))
    case rel=>exact ⟨i+1,e,Hid.mk (by omega),by go_num,rfl,he2,HE,hB⟩
    case measure=>have:=HI.out;omega
   ·have hi2:i=a.size:=by omega
    subst hi2
    have hE:(d==0)=decide (a=b):=by
     show decide (d=0)=_
     refine decide_eq_decide.2 (HD.out.trans ⟨fun h=>same_ext hl h,fun h=>?_⟩)
     rw[h]
     exact fun _ _=>rfl
    clear HD
    go_wp2_with fail
    go_ret
    exact ⟨by rw[← hE];rfl,hB⟩
 ·have hlI:¬ (a.size:Int)=(b.size:Int):=by omega
  have hE:decide (a=b)=false:=decide_eq_false (fun h=>hl (by rw[h]))
  have HE:=Hid.mk hE
  clear hE hl
  go_enter Tryz.func63,Tryz.ntmps63
  go_wp2_with fail
  go_ret
  exact ⟨by rw[HE.out];rfl,Below.refl _ _⟩
theorem mark2 (key nonce:Nat→Int) (under beside:ByteArray) (pv:Value) (w:World) (hk:Byts 32 key) (hn:Byts 12 nonce) (hv:Strs w pv 2 (two2 beside under)) (hu:under.size≤1152921504606846976) (hb:beside.size≤1152921504606846976) :
  Calls Tryz.prog 150 #[.agg (WA .u8 32 key),.agg (WA .u8 12 nonce),pv] w fun e w'=>e=.returned (.agg (WA .u8 16 (digN (markN (onceK key nonce) (txt (marked under beside)) (marked under beside).size))))∧Below w.heap.size w w':=by
 have h:=markOf_run key nonce pv (two2 beside under) w hk hn hv (fun j hj=>by
  match j,hj with
  | 0,_=>exact hb
  | 1,_=>exact hu)
 rw[join6] at h
 exact h
theorem Seal_run (key nonce:Nat→Int) (text beside:ByteArray) (w:World) (hk:Byts 32 key) (hn:Byts 12 nonce) (ht:text.size≤140737488355328) (hbs:beside.size≤281474976710656) :
  Calls Tryz.prog 120 #[.agg (WA .u8 32 key),.agg (WA .u8 12 nonce),.string text,.string beside] w fun e w'=>e=.returned (.string (boxT key nonce text beside))∧Below w.heap.size w w':=by
 have g0:ArrAt ((w.alloc (.cells (WA .u8 32 key) 22)).alloc (.cells (WA .u8 12 nonce) 26)) w.heap.size .u8 22 32 key:=heap_alloc2_old w _ _
 have g1:ArrAt ((w.alloc (.cells (WA .u8 32 key) 22)).alloc (.cells (WA .u8 12 nonce) 26)) (w.heap.size+1) .u8 26 12 nonce:=heap_alloc2_new w _ _
 have hB:Below w.heap.size w ((w.alloc (.cells (WA .u8 32 key) 22)).alloc (.cells (WA .u8 12 nonce) 26)):=((Below.refl _ w).alloc (by simp) _).alloc (by simp) _
 have hS:=fun w=>Stream_run key nonce 1 text w hk hn (by unfold W32;omega) ht
 have hM:=fun pv w hv=>mark2 key nonce (underT key nonce text) beside pv w hk hn hv (by rw[underT_size];omega) (by omega)
 have HE:Hid (underT key nonce text++markT key nonce (underT key nonce text) beside=boxT key nonce text beside):=Hid.mk rfl
 have hL1:(underT key nonce text).size+(markT key nonce (underT key nonce text) beside).size≤9223372036854775807:=by rw[underT_size,markT_size];omega
 change ∀ w,Calls _ _ _ w fun e w'=>e=.returned (.string (underT key nonce text))∧Below w.heap.size w w' at hS
 unfold markT at HE hL1
 have hmb:=digN_b (markN (onceK key nonce) (txt (marked (underT key nonce text) beside)) (marked (underT key nonce text) beside).size)
 generalize digN (markN (onceK key nonce) (txt (marked (underT key nonce text) beside)) (marked (underT key nonce text) beside).size)=m at *
 generalize underT key nonce text=u at *
 clear ht
 go_enter Tryz.func120,Tryz.ntmps120
 go_wp2_with (first|(refine ld_arr isArr32 g0 (by rfl) ?_)|(refine ld_arr isArr12 g1 (by rfl) ?_))
 refine (hS _).mono ?_
 rintro e v1 ⟨rfl,hb⟩
 replace g0:=g0.kept hb
 replace g1:=g1.kept hb
 replace hB:=hB.trans (hb.mono hB.size)
 clear hb hS
 go_wp2_with (first|(refine ld_arr isArr32 g0 (by rfl) ?_)|(refine ld_arr isArr12 g1 (by rfl) ?_)|(refine wl_bs2 (by rfl) (by rfl) ?_;intro v2 s2 hb2 hz2;refine Hid.out ?_))
 replace hB:=hB.trans (hb2.mono hB.size)
 clear hb2 hz2 g0 g1
 refine Hid.mk ?_
 go_wp2_with fail
 refine (hM _ _ s2).mono ?_
 rintro e v3 ⟨rfl,hb3⟩
 replace hB:=hB.trans (hb3.mono hB.size)
 clear hb3 s2 hM
 have gn:=fun o (ho:o=Obj.cells (WA .u8 16 fun _=>0) 54 (0,0))=>(by rw[ho];exact heap_alloc_new v3 _:ArrAt (v3.alloc o) v3.heap.size .u8 54 16 (fun _=>0))
 have HBS:=Hid.mk hB.size
 go_wp2_with (refine st_arr isArr16 (gn _ rfl) (by rfl) (by rfl) ?_;intro v4 g4 o4;refine Hid.out ?_)
 replace hB:=(hB.alloc HBS.out _).trans (o4.below HBS.out)
 clear o4 gn HBS
 have hcv:=str_back 16 v3.heap.size 16 v4 16 m g4.row (fun j _=>hmb j) rfl
 refine Hid.mk ?_
 go_wp2_with (refine wl_value rfl (exec_catS rfl (by rfl) (by rfl) hL1) ?_)
 rw[HE.out]
 go_ret
 exact ⟨rfl,hB⟩
theorem exec_sub16 {a:Act} {o:Oper} {w:World} {x:Operand} (ho:o.op=.binOp .sub 3 x (.const (.int .i64 16)) 3) {m n:Int} (hx:a.eval x=.int .i64 m) (h:m-16=n∧-9223372036854775808≤n∧n<9223372036854775808):(execOp a.eval o).run Tryz.prog w=.ok (.value (.int .i64 n)) w :=
 exec_bin ho rfl hx rfl (by simp[go_sem,h.1,i64_wrap h.2.1 h.2.2])
theorem Open_run (key nonce:Nat→Int) (box beside:ByteArray) (w:World) (hk:Byts 32 key) (hn:Byts 12 nonce) (ht:box.size≤140737488355328) (hbs:beside.size≤281474976710656) :
  Calls Tryz.prog 132 #[.agg (WA .u8 32 key),.agg (WA .u8 12 nonce),.string box,.string beside] w fun e w'=>e=.returned (.tuple #[.string (openT key nonce box beside).1,.int .i64 (openT key nonce box beside).2])∧Below w.heap.size w w':=by
 have g0:ArrAt ((w.alloc (.cells (WA .u8 32 key) 22)).alloc (.cells (WA .u8 12 nonce) 26)) w.heap.size .u8 22 32 key:=heap_alloc2_old w _ _
 have g1:ArrAt ((w.alloc (.cells (WA .u8 32 key) 22)).alloc (.cells (WA .u8 12 nonce) 26)) (w.heap.size+1) .u8 26 12 nonce:=heap_alloc2_new w _ _
 have hB:Below w.heap.size w ((w.alloc (.cells (WA .u8 32 key) 22)).alloc (.cells (WA .u8 12 nonce) 26)):=((Below.refl _ w).alloc (by simp) _).alloc (by simp) _
 by_cases h16:16≤box.size
 ·obtain ⟨n,hnn⟩:∃ n,box.size=n+16:=⟨box.size-16,by omega⟩
  have HNI:Hid ((box.size:Int)-16=(n:Int)∧-9223372036854775808≤(n:Int)∧(n:Int)<9223372036854775808):=Hid.mk (by omega)
  have HNB:Hid (n≤box.size):=Hid.mk (by omega)
  have hU:=take_size box n (by omega)
  have hsub:box.size-16=n:=by omega
  have HO:Hid (openT key nonce box beside=if (box.extract n box.size)=markT key nonce (box.extract 0 n) beside then (underT key nonce (box.extract 0 n),0) else (ByteArray.empty,13)):=Hid.mk (by
   unfold openT
   rw[hsub]
   by_cases e:(box.extract n box.size)=markT key nonce (box.extract 0 n) beside
   ·rw[if_pos ⟨h16,e⟩,if_pos e]
   ·rw[if_neg (fun h=>e h.2),if_neg e])
  have hlI:¬ (box.size:Int)<16:=by omega
  have hM:=fun pv w hv=>mark2 key nonce (box.extract 0 n) beside pv w hk hn hv (by omega) (by omega)
  have hST:∀ ww:World,Calls Tryz.prog 149 #[.agg (WA .u8 32 key),.int .u32 1,.agg (WA .u8 12 nonce),.string (box.extract 0 n)] ww fun e w'=>e=.returned (.string (underT key nonce (box.extract 0 n)))∧Below ww.heap.size ww w':=fun ww=>Stream_run key nonce 1 _ ww hk hn (by unfold W32;omega) (by omega)
  clear hU hsub hnn
  go_enter Tryz.func132,Tryz.ntmps132
  go_wp2_with fail
  refine wp_gen (fun v=>ArrAt v w.heap.size .u8 22 32 key∧ArrAt v (w.heap.size+1) .u8 26 12 nonce∧Below w.heap.size w v) ⟨g0,g1,hB⟩ ?_
  clear g0 g1 hB
  rintro v0 ⟨g0,g1,hB⟩
  refine wp_region3 (Below v0.heap.size v0) v0.heap.size
   ([]:List (Nat×Cont))
   [kv (.string box),kv (.string box),kv (.int .i64 (box.size:Int)),kv (.int .i64 (n:Int)),kv (.string (box.extract 0 n)),kv (.string box),kv (.string box),kv (.int .i64 (box.size:Int)),kv (.int .i64 (n:Int)),kv (.string (box.extract n box.size)),kv (.string (box.extract 0 n)),kv (.string (box.extract n box.size))]
   [.none,.none,.none,.none,.none,.none,.none,.none,.none,.none,.none,.none]
   [some 16,some 17,some 18,some 19,some 20,some 21,some 22,some 23,some 24,some 25,some 10,some 11]
   [(2,.string box)]
   [[],[],[.slot 1],[.slot 2],[.slot 0,.slot 3],[],[],[.slot 6],[.slot 7],[.slot 5,.slot 8],[.slot 4],[.slot 9]]
   [.slot 10,.slot 11] [16,17,18,19,20,21,22,23,24,25,10,11]
   rfl (by kernel_rfl) ⟨rfl,trivial⟩ (Below.refl _ v0).drew (Nat.le_refl _) trivial trivial (below_G (Nat.le_refl _) trivial)
   ⟨
    (fun _ _ _ _ _ _ fr _=>sV (exec_move rfl fr.1)),
    (fun _ _ _ _ _ _ fr _=>sV (exec_move rfl fr.1)),
    (fun _ _ _ _ _ _ _ kn=>sV (exec_lenS rfl kn.1)),
    (fun _ _ _ _ _ _ _ kn=>sV (exec_sub16 rfl kn.1 HNI.out)),
    (fun _ _ ww _ _ _ _ kn=>sV (exec_slH rfl kn.1 kn.2.1 (strH box n ww HNB.out))),
    (fun _ _ _ _ _ _ fr _=>sV (exec_move rfl fr.1)),
    (fun _ _ _ _ _ _ fr _=>sV (exec_move rfl fr.1)),
    (fun _ _ _ _ _ _ _ kn=>sV (exec_lenS rfl kn.1)),
    (fun _ _ _ _ _ _ _ kn=>sV (exec_sub16 rfl kn.1 HNI.out)),
    (fun _ _ ww _ _ _ _ kn=>sV (exec_slL rfl kn.1 kn.2.1 (strL box n ww HNB.out))),
    (fun _ _ _ _ _ _ _ kn=>sV (exec_assign rfl kn.1)),
    (fun _ _ _ _ _ _ _ kn=>sV (exec_assign rfl kn.1)),
    trivial⟩ ?_
  intro vs own v5 hB5 hs5 kn inj
  clear inj hs5
  replace g0:=g0.kept hB5
  replace g1:=g1.kept hB5
  replace hB:=hB.trans (hB5.mono hB.size)
  have e10:vs 10=.string (box.extract 0 n):=kn.1
  have e11:vs 11=.string (box.extract n box.size):=kn.2.1
  clear kn hB5
  simp only[putAll,Act.put,List.setIfInBounds_toArray,List.set_cons_zero,List.set_cons_succ,e10,e11]
  clear e10 e11 HNI HNB
  unfold markT at HO
  have hmb:=digN_b (markN (onceK key nonce) (txt (marked (box.extract 0 n) beside)) (marked (box.extract 0 n) beside).size)
  generalize digN (markN (onceK key nonce) (txt (marked (box.extract 0 n) beside)) (marked (box.extract 0 n) beside).size)=m at *
  generalize underT key nonce (box.extract 0 n)=ut at *
  generalize (box.extract 0 n)=u at *
  generalize (box.extract n box.size)=x at *
  go_wp2_with (first|(refine ld_arr isArr32 g0 (by rfl) ?_)|(refine ld_arr isArr12 g1 (by rfl) ?_)|(refine wl_bs2 (by rfl) (by rfl) ?_;intro v2 s2 hb2 hz2;refine Hid.out ?_))
  replace hB:=hB.trans (hb2.mono hB.size)
  replace g0:=g0.kept hb2
  replace g1:=g1.kept hb2
  clear hb2 hz2
  refine Hid.mk ?_
  go_wp2_with fail
  refine (hM _ _ s2).mono ?_
  rintro e v3 ⟨rfl,hb3⟩
  replace hB:=hB.trans (hb3.mono hB.size)
  replace g0:=g0.kept hb3
  replace g1:=g1.kept hb3
  clear hb3 s2 hM
  have gn:=fun o (ho:o=Obj.cells (WA .u8 16 fun _=>0) 54 (0,0))=>(by rw[ho];exact heap_alloc_new v3 _:ArrAt (v3.alloc o) v3.heap.size .u8 54 16 (fun _=>0))
  have HBS:=Hid.mk hB.size
  have hz0:=g0.lt
  have hz1:=g1.lt
  go_wp2_with (refine st_arr isArr16 (gn _ rfl) (by rfl) (by rfl) ?_;intro v4 g4 o4;refine Hid.out ?_)
  replace hB:=(hB.alloc HBS.out _).trans (o4.below HBS.out)
  replace g0:=(g0.alloc _).only o4 (by omega)
  replace g1:=(g1.alloc _).only o4 (by omega)
  clear o4 gn HBS hz0 hz1
  have hcv:=str_back 16 v3.heap.size 16 v4 16 m g4.row (fun j _=>hmb j) rfl
  refine Hid.mk ?_
  go_wp2_with fail
  refine (Same_run (mkS 16 m) x _ (by rw[mkS_size];omega)).mono ?_
  rintro e v6 ⟨rfl,hb6⟩
  replace hB:=hB.trans (hb6.mono hB.size)
  replace g0:=g0.kept hb6
  replace g1:=g1.kept hb6
  clear hb6 g4 hcv
  by_cases heq:x=mkS 16 m
  ·have hd:decide (mkS 16 m=x)=true:=decide_eq_true heq.symm
   have HR:Hid (openT key nonce box beside=(ut,0)):=Hid.mk (by rw[HO.out,if_pos heq])
   rw[hd]
   clear heq hd HO
   go_wp2_with (first|(refine ld_arr isArr32 g0 (by rfl) ?_)|(refine ld_arr isArr12 g1 (by rfl) ?_))
   refine (hST _).mono ?_
   rintro e v7 ⟨rfl,hb7⟩
   replace hB:=hB.trans (hb7.mono hB.size)
   clear hb7 g0 g1 hST
   go_wp2_with fail
   exact bodyPost_ret (v:=.tuple #[.string ut,.int .i64 0]) (results_two Tryz.results132 (by rfl) (by rfl)) rfl ⟨by rw[HR.out],hB⟩
  ·have hd:decide (mkS 16 m=x)=false:=decide_eq_false (fun h=>heq h.symm)
   have HR:Hid (openT key nonce box beside=(ByteArray.empty,13)):=Hid.mk (by rw[HO.out,if_neg heq])
   rw[hd]
   clear heq hd HO hST
   go_wp2_with fail
   exact bodyPost_ret (v:=.tuple #[.string ByteArray.empty,.int .i64 13]) (results_two Tryz.results132 (by rfl) (by rfl)) rfl ⟨by rw[HR.out],hB⟩
 ·have HR:Hid (openT key nonce box beside=(ByteArray.empty,13)):=Hid.mk (by unfold openT;rw[if_neg (fun h=>h16 h.1)])
  have hlI:(box.size:Int)<16:=by omega
  go_enter Tryz.func132,Tryz.ntmps132
  go_wp2_with fail
  exact bodyPost_ret (v:=.tuple #[.string ByteArray.empty,.int .i64 13]) (results_two Tryz.results132 (by rfl) (by rfl)) rfl ⟨by rw[HR.out],hB⟩
theorem sl12L4 (b:Nat) (w:World):(Instr.sliceAt 26 (.pointer (some ⟨b,0,none⟩)) (some (.int .i64 4)) none none).run Tryz.prog w=.ok (.slice (some ⟨b,4,none⟩) 8 8) w:=by simp[go_sem]
theorem sl8w (b:Nat) (w:World):(Instr.sliceAt 177 (.pointer (some ⟨b,0,none⟩)) none none none).run Tryz.prog w=.ok (.slice (some ⟨b,0,none⟩) 8 8) w:=by simp[go_sem]
theorem sl24H16 (b:Nat) (w:World):(Instr.sliceAt 53 (.pointer (some ⟨b,0,none⟩)) none (some (.int .i64 16)) none).run Tryz.prog w=.ok (.slice (some ⟨b,0,none⟩) 16 24) w:=by simp[go_sem]
theorem sl24L16 (b:Nat) (w:World):(Instr.sliceAt 53 (.pointer (some ⟨b,0,none⟩)) (some (.int .i64 16)) none none).run Tryz.prog w=.ok (.slice (some ⟨b,16,none⟩) 8 8) w:=by simp[go_sem]
theorem sl24w (b:Nat) (w:World):(Instr.sliceAt 53 (.pointer (some ⟨b,0,none⟩)) none none none).run Tryz.prog w=.ok (.slice (some ⟨b,0,none⟩) 24 24) w:=by simp[go_sem]
theorem sl16W (b:Nat) (w:World):(Instr.sliceAt 54 (.pointer (some ⟨b,0,none⟩)) none none none).run Tryz.prog w=.ok (.slice (some ⟨b,0,none⟩) 16 16) w:=by simp[go_sem]
def tailN (end8:Nat→Int):Nat→Int:=over (fun _=>0) 4 8 end8
theorem tailN_b {end8:Nat→Int} (h:Byts 8 end8):Byts 12 (tailN end8):=fun i hi=>by
 unfold tailN over
 split
 ·exact h _ (by omega)
 ·show 0≤(0:Int)∧(0:Int)<256
  omega
theorem behindZ_run (end8:Nat→Int) (w:World) :
  Calls Tryz.prog 151 #[.agg (WA .u8 8 end8)] w fun e w'=>e=.returned (.agg (WA .u8 12 (tailN end8)))∧Below w.heap.size w w':=by
 have g0:ArrAt (((w.alloc (.cells (WA .u8 8 end8) 177)).alloc (.cells (WA .u8 12 fun _=>0) 26)).alloc (.cells (WA .u8 12 fun _=>0) 26)) w.heap.size .u8 177 8 end8:=heap_a31 w _ _ _
 have g1:ArrAt (((w.alloc (.cells (WA .u8 8 end8) 177)).alloc (.cells (WA .u8 12 fun _=>0) 26)).alloc (.cells (WA .u8 12 fun _=>0) 26)) (w.heap.size+1) .u8 26 12 (fun _=>0):=heap_a32 w _ _ _
 have g2:ArrAt (((w.alloc (.cells (WA .u8 8 end8) 177)).alloc (.cells (WA .u8 12 fun _=>0) 26)).alloc (.cells (WA .u8 12 fun _=>0) 26)) (w.heap.size+1+1) .u8 26 12 (fun _=>0):=heap_a3 w _ _ _
 have hB:Below w.heap.size w (((w.alloc (.cells (WA .u8 8 end8) 177)).alloc (.cells (WA .u8 12 fun _=>0) 26)).alloc (.cells (WA .u8 12 fun _=>0) 26)):=(((Below.refl _ w).alloc (by simp) _).alloc (by simp) _).alloc (by simp;omega) _
 go_enter Tryz.func151,Tryz.ntmps151
 go_wp2_with fail
 refine wp_gen (fun v=>ArrAt v (w.heap.size+1+1) .u8 26 12 (fun _=>0)∧ArrAt v w.heap.size .u8 177 8 (end8)∧ArrAt v (w.heap.size+1) .u8 26 12 (fun _=>0)∧Below w.heap.size w v) ⟨g2,g0,g1,hB⟩ ?_
 clear g2 g0 g1 hB
 rintro v0 ⟨g2,g0,g1,hB⟩
 refine wp_region3 (Below w.heap.size w) v0.heap.size
  [((w.heap.size+1+1),once (WA .u8 12 (fun _=>0)) 26 2 (WA .u8 12 (over (fun _=>0) 4 8 (end8)))),(w.heap.size,fixd (WA .u8 8 (end8)) 177),((w.heap.size+1),fixd (WA .u8 12 (fun _=>0)) 26)]
  [kv (.slice (some ⟨(w.heap.size+1+1),4,none⟩) 8 8),kv (.slice (some ⟨w.heap.size,0,none⟩) 8 8),.val fun _=>True]
  [.none,.none,.base 0 1]
  [some 4,some 5,some 6]
  [(3,.pointer (some ⟨(w.heap.size+1+1),0,none⟩)),(1,.pointer (some ⟨w.heap.size,0,none⟩))]
  [[],[],[.slot 0,.slot 1,.base 0 0,.base 1 0]]
  [.base 0 1,.base 1 0,.base 2 0] [4,5,6]
  rfl (by kernel_rfl) ⟨rfl,rfl,trivial⟩ (Below.drew hB) (Nat.le_refl _) ⟨⟨g2.lt,obIn g2⟩,⟨g0.lt,obIn g0⟩,⟨g1.lt,obIn g1⟩,trivial⟩ ⟨⟨(show ((w.heap.size+1+1):Nat)≠w.heap.size from by omega),(show ((w.heap.size+1+1):Nat)≠(w.heap.size+1) from by omega),trivial⟩,⟨trivial,trivial⟩,trivial,trivial⟩ (below_G hB.size ⟨by omega,by omega,by omega,trivial⟩)
  ⟨
   (fun _ _ ww _ _ _ fr _=>sV (exec_slL (v:=.pointer (some ⟨(w.heap.size+1+1),0,none⟩)) (u:=.int .i64 4) rfl fr.1 rfl (sl12L4 (w.heap.size+1+1) ww))),
   (fun _ _ ww _ _ _ fr _=>sV (exec_sl (v:=.pointer (some ⟨w.heap.size,0,none⟩)) rfl fr.2.1 (sl8w w.heap.size ww))),
   (fun _ _ _ _ _ _ _ kn=>.inl ⟨trivial,fun K hK=>act_copy rfl kn.1 kn.2.1 (obAt kn.2.2.1) (m:=8) rfl (by omega) (r:=end8) (fun q hq=>by rw[Nat.zero_add];exact ArrAt.cell (obAt kn.2.2.2.1) q (by omega)) (fun w2 hg ho=>hK _ _ ⟨⟨touch_only ho,obIn hg⟩,trivial⟩)⟩),
   trivial⟩ ?_
 intro vs own v1 hB1 hs1 kn inj
 clear inj g2 g0 g1 hB
 have g2:ArrAt v1 (w.heap.size+1+1) .u8 26 12 (over (fun _=>0) 4 8 (end8)):=obAt kn.1
 have g0:ArrAt v1 w.heap.size .u8 177 8 (end8):=obAt kn.2.1
 have g1:ArrAt v1 (w.heap.size+1) .u8 26 12 (fun _=>0):=obAt kn.2.2.1
 have hB:=hB1
 clear kn hB1 hs1
 simp only[putAll,Act.put,List.setIfInBounds_toArray,List.set_cons_zero,List.set_cons_succ]
 go_wp2_with (first|(refine ld_arr isArr12 g2 (by rfl) ?_)|(refine st_arr isArr12 g1 (by rfl) (by rfl) ?_;intro v4 g4 o4;refine Hid.out ?_))
 refine Hid.mk ?_
 go_wp2_with fail
 exact bodyPost_ret (res_arr Tryz.results151 isArr12 g4 (by rfl)) rfl ⟨rfl,hB.trans (o4.below (by omega))⟩
end Go.Proofs.YthghcjepdhkfdaaGreatDoor
