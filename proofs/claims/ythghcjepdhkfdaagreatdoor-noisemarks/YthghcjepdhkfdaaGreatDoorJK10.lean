/-
  Own text. What behind of package blake gives: a block, taken.
-/
import Derived.Test.YthghcjepdhkfdaaGreatDoorJK9
import Derived.Test.YthghcjepdhkfdaaGreatDoorJK3
import Derived.Lib.SliceRun
import Derived.Test.YthghcjepdhkfdaaGreatDoorJK1
import Derived.Recover
import Derived.WalkSmall
import Derived.Test.YthghcjepdhkfdaaGreatDoorJK4
import Derived.Test.YthghcjepdhkfdaaGreatDoorJK7
set_option maxHeartbeats 16000000
set_option maxRecDepth 100000
namespace Go.Proofs.YthghcjepdhkfdaaGreatDoor
open Go.RowKit Go.Proofs
theorem enterInOrder (args:Array Value) (w:World):(callFunc 215 args).run Tryz.prog w=.ok (.enter 215 args) w:=by kernel_rfl
theorem enterRound (args:Array Value) (w:World):(callFunc 214 args).run Tryz.prog w=.ok (.enter 214 args) w:=by kernel_rfl
theorem isSt:IsArr 194 8:=⟨_,_,Tryz.underlying194,by kernel_rfl⟩
theorem isB64:IsArr 183 64:=⟨_,_,Tryz.underlying183,by kernel_rfl⟩
theorem xorw_assoc (x y z:Int):xorw (xorw x y) z=xorw x (xorw y z):=by
 unfold xorw
 simp only[Int.toNat_natCast,Nat.xor_assoc]
theorem exec_not32 {a:Act} {o:Oper} {w:World} {x:Operand} (ho:o.op=.unOp .xor 23 x) {n y:Int} (hx:a.eval x=.int .u32 n) (hn:W32 n) (hy:xorw n 4294967295=y):(execOp a.eval o).run Tryz.prog w=.ok (.value (.int .u32 y)) w:=by
 have e:bits .xor .u32 IntKind.u32.max n=y:=by
  rw[show IntKind.u32.max=4294967295 by decide,← hy,xorw_comm]
  exact xor_u32 (by unfold W32;omega) hn
 have h:(Op.unary .xor (.int .u32 n)).run Tryz.prog w=.ok (.int .u32 (bits .xor .u32 IntKind.u32.max n)) w:=rfl
 rw[e] at h
 unfold execOp
 simp only[ho,hx,Sem.run_bind,h,Result.andThen_ok,Sem.run_pure]
def halfV (h:Nat→Int) (i q:Nat):Int:=if q<i then h q else if 8≤q∧q<8+i then bgn (q-8) else 0
theorem halfV_next (h:Nat→Int) (i:Nat) (hi:i<8):upd (upd (halfV h i) i (h i)) (8+i) (bgn i)=halfV h (i+1):=by
 funext q
 unfold upd halfV
 by_cases e1:q=8+i
 ·subst e1;rw[if_pos rfl,if_neg (by omega),if_pos (by omega),Nat.add_sub_cancel_left]
 ·rw[if_neg e1]
  by_cases e2:q=i
  ·subst e2;rw[if_pos rfl,if_pos (by omega)]
  ·rw[if_neg e2]
   by_cases e3:q<i
   ·rw[if_pos e3,if_pos (by omega)]
   ·have r1:¬ q<i+1:=by omega
    rw[if_neg e3,if_neg r1]
    by_cases e4:8≤q∧q<8+i
    ·have r2:8≤q∧q<8+(i+1):=by omega
     rw[if_pos e4,if_pos r2]
    ·have r2:¬ (8≤q∧q<8+(i+1)):=by omega
     rw[if_neg e4,if_neg r2]
theorem halfV_zero (h:Nat→Int):halfV h 0=fun _=>0:=by
 funext q
 unfold halfV
 rw[if_neg (by omega),if_neg (by omega)]
def ovr (f h:Nat→Int) (j q:Nat):Int:=if q<j then f q else h q
theorem ovr_next (f h:Nat→Int) (j:Nat):upd (ovr f h j) j (f j)=ovr f h (j+1):=by
 funext q
 unfold upd ovr
 by_cases e:q=j
 ·subst e;rw[if_pos rfl,if_pos (by omega)]
 ·rw[if_neg e]
  by_cases h3:q<j
  ·have r:q<j+1:=by omega
   rw[if_pos h3,if_pos r]
  ·have r:¬ q<j+1:=by omega
   rw[if_neg h3,if_neg r]
theorem ovr_zero (f h:Nat→Int):ovr f h 0=h:=by
 funext q
 unfold ovr
 rw[if_neg (by omega)]
theorem ovr_at (f h:Nat→Int) (j:Nat):ovr f h j j=h j:=by unfold ovr;rw[if_neg (by omega)]
theorem ovr_full {f h:Nat→Int} {n:Nat}:∀ i,i<n→ovr f h n i=f i:=fun i hi=>by unfold ovr;rw[if_pos hi]
theorem hbehind_run (h bl:Nat→Int) (t:Int) (last:Bool) (w:World) (hTw:Tabs w) (hh:∀ i,i<8→W32 (h i)) (hbl:Byts 64 bl) (ht:0≤t∧t<18446744073709551616) :
  Calls Tryz.prog 197 #[.agg (WA .u32 8 h),.agg (WA .u8 64 bl),.int .u64 t,.bool last] w fun e w'=>e=.returned (.agg (WA .u32 8 (takeF h bl t last)))∧Below w.heap.size w w':=by
 have g0:ArrAt ((((w.alloc (.cells (WA .u32 8 h) 194)).alloc (.cells (WA .u8 64 bl) 183)).alloc (.cells (WA .u32 8 fun _=>0) 194)).alloc (.cells (WA .u32 16 fun _=>0) 238)) w.heap.size .u32 194 8 h:=heap_a41 w _ _ _ _
 have g1:ArrAt ((((w.alloc (.cells (WA .u32 8 h) 194)).alloc (.cells (WA .u8 64 bl) 183)).alloc (.cells (WA .u32 8 fun _=>0) 194)).alloc (.cells (WA .u32 16 fun _=>0) 238)) (w.heap.size+1) .u8 183 64 bl:=heap_a42 w _ _ _ _
 have g2:ArrAt ((((w.alloc (.cells (WA .u32 8 h) 194)).alloc (.cells (WA .u8 64 bl) 183)).alloc (.cells (WA .u32 8 fun _=>0) 194)).alloc (.cells (WA .u32 16 fun _=>0) 238)) (w.heap.size+1+1) .u32 194 8 (fun _=>0):=heap_a43 w _ _ _ _
 have gv:ArrAt ((((w.alloc (.cells (WA .u32 8 h) 194)).alloc (.cells (WA .u8 64 bl) 183)).alloc (.cells (WA .u32 8 fun _=>0) 194)).alloc (.cells (WA .u32 16 fun _=>0) 238)) (w.heap.size+1+1+1) .u32 238 16 (fun _=>0):=heap_a4 w _ _ _ _
 have hB:Below w.heap.size w ((((w.alloc (.cells (WA .u32 8 h) 194)).alloc (.cells (WA .u8 64 bl) 183)).alloc (.cells (WA .u32 8 fun _=>0) 194)).alloc (.cells (WA .u32 16 fun _=>0) 238)):=((((Below.refl _ w).alloc (by simp) _).alloc (by simp) _).alloc (by simp;omega) _).alloc (by simp;omega) _
 have h2:=hTw.two
 have HTw:=Hid.mk hTw
 clear hTw
 go_enter Tryz.func197,Tryz.ntmps197
 go_wp2_with fail
 go_loopg [14] 8 (fun gm iv v=>∃ i:Nat,Hid (gm+i=8)∧iv=.int .i64 (i:Int)∧ArrAt v w.heap.size .u32 194 8 h∧ArrAt v (w.heap.size+1) .u8 183 64 bl∧ArrAt v (w.heap.size+1+1) .u32 194 8 (fun _=>0)∧ArrAt v (w.heap.size+1+1+1) .u32 238 16 (halfV h i)∧Below w.heap.size w v)
 case atStart=>exact ⟨0,Hid.mk rfl,rfl,g0,g1,g2,by rw[halfV_zero];exact gv,hB⟩
 case round =>
  clear g0 g1 g2 gv hB
  obtain ⟨i,HI,rfl,g0,g1,g2,gv,hB⟩:=hrel
  have hi8:i≤8:=by have:=HI.out;omega
  by_cases hil:i<8
  ·have HN:=Hid.mk (halfV_next h i hil)
   have c0:=g0.cell i hil
   have cg:=(HTw.out.below hB h2).beg i hil
   have cv:=gv.cell i (by omega)
   have fv:=gv.free i
   have cw:=gv.cell (8+i) (by omega)
   have fw:=gv.free (8+i)
   have HG:=Hid.mk ((gv.set i (h i) (by omega)).set (8+i) (bgn i) (by omega))
   rw[HN.out] at HG
   generalize bgn i=bi at *
   generalize h i=hi at *
   go_wp2_with fail
   go_region
   go_wp2_with fail
   go_roundg (8-(i+1))
   case rel=>exact ⟨i+1,Hid.mk (by omega),by go_num,(g0.other _ (by omega)).other _ (by omega),(g1.other _ (by omega)).other _ (by omega),(g2.other _ (by omega)).other _ (by omega),HG.out,(Below.setCell (Below.setCell hB (by simp;omega) _) (by simp;omega) _).drew⟩
   case measure=>have:=HI.out;omega
  ·have hi2:i=8:=by omega
   subst hi2
   clear hil hi8 HI
   have W0:∀ q,q<16→W32 (halfV h 8 q):=fun q hq=>by
    unfold halfV
    split
    ·exact hh q (by omega)
    ·rw[if_pos (by omega)];exact bgn_w _
   have HQ0:Hid (∀ q,q<16→halfV h 8 q=if q<8 then h q else bgn (q-8)):=Hid.mk (fun q hq=>by
    unfold halfV
    split
    ·rfl
    ·rw[if_pos (by omega)])
   generalize halfV h 8=V0 at *
   have HB2:=Hid.mk (begV_false h V0 t HQ0.out)
   have T1:W32 (t%4294967296):=by unfold W32;omega
   have T2:W32 (t/4294967296):=by unfold W32;omega
   have T3:t/4294967296%4294967296=t/4294967296:=by omega
   have x12:=xor_u32 (W0 12 (by omega)) T1
   have c12:=gv.cell 12 (by omega)
   have f12:=gv.free 12
   have gv1:=gv.set 12 (xorw (V0 12) (t%4294967296)) (by omega)
   have W1:∀ i,i<16→W32 (upd V0 12 (xorw (V0 12) (t%4294967296)) i):=w32_upd W0 (xorw_w (W0 12 (by omega)) T1)
   generalize upd V0 12 (xorw (V0 12) (t%4294967296))=V1 at *
   have x13:=xor_u32 (W1 13 (by omega)) T2
   have c13:=gv1.cell 13 (by omega)
   have f13:=gv1.free 13
   have gv2:=gv1.set 13 (xorw (V1 13) (t/4294967296)) (by omega)
   have W2:∀ i,i<16→W32 (upd V1 13 (xorw (V1 13) (t/4294967296)) i):=w32_upd W1 (xorw_w (W1 13 (by omega)) T2)
   generalize upd V1 13 (xorw (V1 13) (t/4294967296))=V2 at *
   replace gv2:=gv2.congr (s':=begV h t false) HB2.out
   replace W2:∀ i,i<16→W32 (begV h t false i):=fun i hi=>by rw[← HB2.out i hi];exact W2 i hi
   replace g0:=(g0.other (g:=(w.heap.size+1+1+1)) (i:=12) (.int .u32 (xorw (V0 12) (t%4294967296))) (by omega)).other (g:=(w.heap.size+1+1+1)) (i:=13) (.int .u32 (xorw (V1 13) (t/4294967296))) (by omega)
   replace g1:=(g1.other (g:=(w.heap.size+1+1+1)) (i:=12) (.int .u32 (xorw (V0 12) (t%4294967296))) (by omega)).other (g:=(w.heap.size+1+1+1)) (i:=13) (.int .u32 (xorw (V1 13) (t/4294967296))) (by omega)
   replace g2:=(g2.other (g:=(w.heap.size+1+1+1)) (i:=12) (.int .u32 (xorw (V0 12) (t%4294967296))) (by omega)).other (g:=(w.heap.size+1+1+1)) (i:=13) (.int .u32 (xorw (V1 13) (t/4294967296))) (by omega)
   replace hB:=Below.setCell (Below.setCell hB (p:=⟨(w.heap.size+1+1+1),12,none⟩) (by simp;omega) (.int .u32 (xorw (V0 12) (t%4294967296)))) (p:=⟨(w.heap.size+1+1+1),13,none⟩) (by simp;omega) (.int .u32 (xorw (V1 13) (t/4294967296)))
   generalize xorw (V0 12) (t%4294967296)=y12 at *
   generalize xorw (V1 13) (t/4294967296)=y13 at *
   clear gv HB2 HQ0 W0 W1 T1 T2 gv1
   cases last with
   | false =>
    have gv:=gv2
    clear gv2
    have HV:Hid (∀ i,i<16→W32 (begV h t false i)):=Hid.mk W2
    go_wp2_with (refine ld_arr isB64 g1 (by rfl) ?_)
    refine (wordsOf_run bl _ hbl).mono ?_
    rintro e v4 ⟨rfl,hb4⟩
    replace g0:=g0.kept hb4
    replace g2:=g2.kept hb4
    replace gv:=gv.kept hb4
    replace hB:=hB.trans (hb4.mono hB.size)
    clear hb4 g1
    have gn:=fun o (ho:o=Obj.cells (WA .u32 16 fun _=>0) 238 (0,0))=>(by rw[ho];exact heap_alloc_new v4 _:ArrAt (v4.alloc o) v4.heap.size .u32 238 16 (fun _=>0))
    have HBS:=Hid.mk hB.size
    have hz:=gv.lt
    go_wp2_with (refine st_arr isW (gn _ rfl) (by rfl) (by rfl) ?_;intro v5 gm o5;refine Hid.out ?_)
    replace hB:=(hB.alloc HBS.out _).trans (o5.below HBS.out)
    replace g0:=(g0.alloc _).only o5 (by omega)
    replace g2:=(g2.alloc _).only o5 (by omega)
    replace gv:=(gv.alloc _).only o5 (by omega)
    clear o5 gn HBS
    generalize v4.heap.size=bm at *
    have HT5:Hid (Tabs v5):=Hid.mk (HTw.out.below hB h2)
    refine Hid.mk ?_
    go_wp2_with fail
    go_loopg [49] 10 (fun gm iv v=>∃ k:Nat,Hid (gm+k=10)∧iv=.int .i64 (k:Int)∧ArrAt v (w.heap.size+1+1+1) .u32 238 16 (tenB (bwd bl) (begV h t false) k)∧Hid (∀ i,i<16→W32 (tenB (bwd bl) (begV h t false) k i))∧Touch (fun x=>x=(w.heap.size+1+1+1)) v5 v)
    case atStart=>exact ⟨0,Hid.mk rfl,rfl,gv,HV,Touch.refl _ _⟩
    case round =>
     clear gv
     obtain ⟨k,HK,rfl,gv,HX,hT5⟩:=hrel
     have hk10:k≤10:=by have:=HK.out;omega
     by_cases hk:k<10
     ·have HN:Hid (rndM (tenB (bwd bl) (begV h t false) k) (fun j=>bwd bl (ord k j))=tenB (bwd bl) (begV h t false) (k+1)):=Hid.mk (round_eq (bwd bl) k _).symm
      generalize tenB (bwd bl) (begV h t false) k=X at *
      go_wp2_with fail
      refine wp_gen (fun v=>ArrAt v (w.heap.size+1+1+1) .u32 238 16 X∧Touch (fun x=>x=(w.heap.size+1+1+1)) v5 v) ⟨gv,hT5⟩ ?_
      clear gv hT5
      rintro v0 ⟨gv,hT5⟩
      have HM:Hid (∀ u,Touch (fun x=>x=(w.heap.size+1+1+1)) v5 u→ArrAt u bm .u32 238 16 (bwd bl)):=Hid.mk (fun u hu=>gm.touch hu (by omega))
      have HT:Hid (∀ u,Touch (fun x=>x=(w.heap.size+1+1+1)) v5 u→Tabs u):=Hid.mk (fun u hu=>HT5.out.touch hu (by omega))
      refine wp_region3 (Touch (fun x=>x=(w.heap.size+1+1+1)) v5) v0.heap.size
       [((w.heap.size+1+1+1),once (WA .u32 16 X) 238 5 (WA .u32 16 (rndM X fun j=>bwd bl (ord k j))))]
       [kv (.agg (WA .u32 16 X)),kv (.agg (WA .u32 16 (bwd bl))),kv (.int .i64 ((k:Nat):Int)),kv (.agg (WA .u32 16 fun j=>bwd bl (ord k j))),kv (.agg (WA .u32 16 (rndM X fun j=>bwd bl (ord k j)))),.val fun _=>True]
       [.none,.none,.none,.none,.none,.base 0 1]
       [some 52,some 53,some 54,some 55,some 56,none]
       [(9,.pointer (some ⟨(w.heap.size+1+1+1),0,none⟩)),(11,.pointer (some ⟨bm,0,none⟩)),(12,.int .i64 ((k:Nat):Int))]
       [[.base 0 0],[],[],[.slot 1,.slot 2],[.slot 0,.slot 3],[.slot 4,.base 0 0]]
       [.base 0 1] [52,53,54,55,56]
       rfl (by kernel_rfl) ⟨rfl,rfl,rfl,trivial⟩ (Touch.drew hT5) (Nat.le_refl _) ⟨⟨gv.lt,obIn gv⟩,trivial⟩ ⟨trivial,trivial⟩ (touch_S hT5.size)
       ⟨
        (fun _ _ _ _ _ _ fr kn=>sV (look_arr rfl isW (obAt kn.1) fr.1)),
        (fun _ _ ww _ hS _ fr _=>sV (look_arr rfl isW (HM.out ww hS) fr.2.1)),
        (fun _ _ _ _ _ _ fr _=>sV (exec_move rfl fr.2.2.1)),
        (fun _ _ ww _ hS _ _ kn=>.inl ⟨trivial,fun K hK=>stepc enterInOrder rfl (args2 kn.1 kn.2.1) (inOrder_run (bwd bl) k ww (HT.out ww hS) hk) (fun w' hb=>hK _ _ ⟨touch_below hb,rfl⟩)⟩),
        (fun _ _ ww _ _ _ _ kn=>.inl ⟨trivial,fun K hK=>stepc enterRound rfl (args2 kn.1 kn.2.1) (round_run X _ ww HX.out) (fun w' hb=>hK _ _ ⟨touch_below hb,rfl⟩)⟩),
        (fun _ _ _ _ _ _ fr kn=>.inl ⟨trivial,fun K hK=>act_arr rfl isW fr.1 kn.1 (obAt kn.2.1) (fun w2 hg ho=>hK _ _ ⟨⟨touch_only ho,obIn hg⟩,trivial⟩)⟩),
        trivial⟩ ?_
      intro vs own v6 hT6 hs6 kn inj
      clear inj hs6
      replace gv:ArrAt v6 (w.heap.size+1+1+1) .u32 238 16 (rndM X fun j=>bwd bl (ord k j)):=obAt kn.1
      clear kn HM HT hT5
      simp only[putAll,Act.put,List.setIfInBounds_toArray,List.set_cons_zero,List.set_cons_succ]
      have HW6:=Hid.mk (rndM_w (m:=fun j=>bwd bl (ord k j)) HX.out)
      rw[HN.out] at gv HW6
      go_wp2_with fail
      go_roundg (10-(k+1))
      case rel=>exact ⟨k+1,Hid.mk (by omega),by go_num,gv,HW6,hT6⟩
      case measure=>have:=HK.out;omega
     ·have hk2:k=10:=by omega
      subst hk2
      have HTF:Hid (∀ q,q<8→takeF h bl t false q=xorw (h q) (xorw (tenB (bwd bl) (begV h t false) 10 q) (tenB (bwd bl) (begV h t false) 10 (8+q)))):=Hid.mk (fun q _=>by unfold takeF;rw[xorw_assoc,Nat.add_comm q 8])
      generalize tenB (bwd bl) (begV h t false) 10=vt at *
      replace g0:=g0.touch hT5 (by omega)
      replace g2:=g2.touch hT5 (by omega)
      replace hB:=belowT hB hT5 (by omega) (Nat.le_refl _)
      clear hT5 hk hk10 HK gm HT5
      go_wp2_with fail
      rw[show ((10:Nat):Int)=10 from rfl]
      generalize wr=wo3 at *
      go_loopg [58] 8 (fun gm iv v=>∃ j:Nat,Hid (gm+j=8)∧iv=.int .i64 (j:Int)∧ArrAt v w.heap.size .u32 194 8 (ovr (takeF h bl t false) h j)∧ArrAt v (w.heap.size+1+1) .u32 194 8 (fun _=>0)∧ArrAt v (w.heap.size+1+1+1) .u32 238 16 vt∧Below w.heap.size w v)
      case atStart=>exact ⟨0,Hid.mk rfl,rfl,by rw[ovr_zero];exact g0,g2,gv,hB⟩
      case round =>
       clear g0 g2 gv hB
       obtain ⟨j,HJ,rfl,g0,g2,gv,hB⟩:=hrel
       have hj8:j≤8:=by have:=HJ.out;omega
       by_cases hj:j<8
       ·have c0:=g0.cell j hj
        have f0:=g0.free j
        rw[ovr_at] at c0
        have c1:=gv.cell j (by omega)
        have c2:=gv.cell (8+j) (by omega)
        have e1:=xor_u32 (HX.out j (by omega)) (HX.out (8+j) (by omega))
        have e2:=xor_u32 (hh j hj) (xorw_w (HX.out j (by omega)) (HX.out (8+j) (by omega)))
        have HG:=Hid.mk (g0.set j (takeF h bl t false j) hj)
        rw[ovr_next] at HG
        rw[HTF.out j hj] at HG
        generalize xorw (vt j) (vt (8+j))=x1 at *
        generalize xorw (h j) x1=x2 at *
        go_wp2_with fail
        go_region
        go_wp2_with fail
        go_roundg (8-(j+1))
        case rel=>exact ⟨j+1,Hid.mk (by omega),by go_num,HG.out,(g2.other _ (by omega)),(gv.other _ (by omega)),(Below.setCell hB (by simp) _).drew⟩
        case measure=>have:=HJ.out;omega
       ·have hj2:j=8:=by omega
        subst hj2
        replace g0:=g0.congr (s':=takeF h bl t false) ovr_full
        clear hj hj8 HJ HTF
        go_wp2_with (first|(refine ld_arr isSt g0 (by rfl) ?_)|(refine st_arr isSt g2 (by rfl) (by rfl) ?_;intro v9 g9 o9))
        exact bodyPost_ret (v:=.agg (WA .u32 8 (takeF h bl t false))) (res_arr rfl isSt g9 rfl) rfl ⟨rfl,hB.trans (o9.below (by omega))⟩
   | true =>
    have c14:=gv2.cell 14 (by omega)
    have f14:=gv2.free 14
    have W14:=W2 14 (by omega)
    obtain ⟨y14,E14⟩:∃ y,xorw (begV h t false 14) 4294967295=y:=⟨_,rfl⟩
    have gv:=(gv2.set 14 (xorw (begV h t false 14) 4294967295) (by omega)).congr (s':=begV h t true) (begV_true h _ t (fun _ _=>rfl))
    have W3:∀ i,i<16→W32 (begV h t true i):=fun i hi=>by
     rw[← begV_true h _ t (fun _ _=>rfl) i hi]
     exact w32_upd W2 (xorw_w (W2 14 (by omega)) (by unfold W32;omega)) i hi
    replace g0:=g0.other (g:=(w.heap.size+1+1+1)) (i:=14) (.int .u32 (xorw (begV h t false 14) 4294967295)) (by omega)
    replace g1:=g1.other (g:=(w.heap.size+1+1+1)) (i:=14) (.int .u32 (xorw (begV h t false 14) 4294967295)) (by omega)
    replace g2:=g2.other (g:=(w.heap.size+1+1+1)) (i:=14) (.int .u32 (xorw (begV h t false 14) 4294967295)) (by omega)
    replace hB:=Below.setCell hB (p:=⟨(w.heap.size+1+1+1),14,none⟩) (by simp;omega) (.int .u32 (xorw (begV h t false 14) 4294967295))
    rw[E14] at gv g0 g1 g2 hB
    clear gv2 W2
    have HV:Hid (∀ i,i<16→W32 (begV h t true i)):=Hid.mk W3
    go_wp2_with (first|(refine wl_value rfl (exec_not32 rfl (by rfl) W14 E14) ?_)|(refine ld_arr isB64 g1 (by rfl) ?_))
    refine (wordsOf_run bl _ hbl).mono ?_
    rintro e v4 ⟨rfl,hb4⟩
    replace g0:=g0.kept hb4
    replace g2:=g2.kept hb4
    replace gv:=gv.kept hb4
    replace hB:=hB.trans (hb4.mono hB.size)
    clear hb4 g1
    have gn:=fun o (ho:o=Obj.cells (WA .u32 16 fun _=>0) 238 (0,0))=>(by rw[ho];exact heap_alloc_new v4 _:ArrAt (v4.alloc o) v4.heap.size .u32 238 16 (fun _=>0))
    have HBS:=Hid.mk hB.size
    have hz:=gv.lt
    go_wp2_with (refine st_arr isW (gn _ rfl) (by rfl) (by rfl) ?_;intro v5 gm o5;refine Hid.out ?_)
    replace hB:=(hB.alloc HBS.out _).trans (o5.below HBS.out)
    replace g0:=(g0.alloc _).only o5 (by omega)
    replace g2:=(g2.alloc _).only o5 (by omega)
    replace gv:=(gv.alloc _).only o5 (by omega)
    clear o5 gn HBS
    generalize v4.heap.size=bm at *
    have HT5:Hid (Tabs v5):=Hid.mk (HTw.out.below hB h2)
    refine Hid.mk ?_
    go_wp2_with fail
    go_loopg [49] 10 (fun gm iv v=>∃ k:Nat,Hid (gm+k=10)∧iv=.int .i64 (k:Int)∧ArrAt v (w.heap.size+1+1+1) .u32 238 16 (tenB (bwd bl) (begV h t true) k)∧Hid (∀ i,i<16→W32 (tenB (bwd bl) (begV h t true) k i))∧Touch (fun x=>x=(w.heap.size+1+1+1)) v5 v)
    case atStart=>exact ⟨0,Hid.mk rfl,rfl,gv,HV,Touch.refl _ _⟩
    case round =>
     clear gv
     obtain ⟨k,HK,rfl,gv,HX,hT5⟩:=hrel
     have hk10:k≤10:=by have:=HK.out;omega
     by_cases hk:k<10
     ·have HN:Hid (rndM (tenB (bwd bl) (begV h t true) k) (fun j=>bwd bl (ord k j))=tenB (bwd bl) (begV h t true) (k+1)):=Hid.mk (round_eq (bwd bl) k _).symm
      generalize tenB (bwd bl) (begV h t true) k=X at *
      go_wp2_with fail
      refine wp_gen (fun v=>ArrAt v (w.heap.size+1+1+1) .u32 238 16 X∧Touch (fun x=>x=(w.heap.size+1+1+1)) v5 v) ⟨gv,hT5⟩ ?_
      clear gv hT5
      rintro v0 ⟨gv,hT5⟩
      have HM:Hid (∀ u,Touch (fun x=>x=(w.heap.size+1+1+1)) v5 u→ArrAt u bm .u32 238 16 (bwd bl)):=Hid.mk (fun u hu=>gm.touch hu (by omega))
      have HT:Hid (∀ u,Touch (fun x=>x=(w.heap.size+1+1+1)) v5 u→Tabs u):=Hid.mk (fun u hu=>HT5.out.touch hu (by omega))
      refine wp_region3 (Touch (fun x=>x=(w.heap.size+1+1+1)) v5) v0.heap.size
       [((w.heap.size+1+1+1),once (WA .u32 16 X) 238 5 (WA .u32 16 (rndM X fun j=>bwd bl (ord k j))))]
       [kv (.agg (WA .u32 16 X)),kv (.agg (WA .u32 16 (bwd bl))),kv (.int .i64 ((k:Nat):Int)),kv (.agg (WA .u32 16 fun j=>bwd bl (ord k j))),kv (.agg (WA .u32 16 (rndM X fun j=>bwd bl (ord k j)))),.val fun _=>True]
       [.none,.none,.none,.none,.none,.base 0 1]
       [some 52,some 53,some 54,some 55,some 56,none]
       [(9,.pointer (some ⟨(w.heap.size+1+1+1),0,none⟩)),(11,.pointer (some ⟨bm,0,none⟩)),(12,.int .i64 ((k:Nat):Int))]
       [[.base 0 0],[],[],[.slot 1,.slot 2],[.slot 0,.slot 3],[.slot 4,.base 0 0]]
       [.base 0 1] [52,53,54,55,56]
       rfl (by kernel_rfl) ⟨rfl,rfl,rfl,trivial⟩ (Touch.drew hT5) (Nat.le_refl _) ⟨⟨gv.lt,obIn gv⟩,trivial⟩ ⟨trivial,trivial⟩ (touch_S hT5.size)
       ⟨
        (fun _ _ _ _ _ _ fr kn=>sV (look_arr rfl isW (obAt kn.1) fr.1)),
        (fun _ _ ww _ hS _ fr _=>sV (look_arr rfl isW (HM.out ww hS) fr.2.1)),
        (fun _ _ _ _ _ _ fr _=>sV (exec_move rfl fr.2.2.1)),
        (fun _ _ ww _ hS _ _ kn=>.inl ⟨trivial,fun K hK=>stepc enterInOrder rfl (args2 kn.1 kn.2.1) (inOrder_run (bwd bl) k ww (HT.out ww hS) hk) (fun w' hb=>hK _ _ ⟨touch_below hb,rfl⟩)⟩),
        (fun _ _ ww _ _ _ _ kn=>.inl ⟨trivial,fun K hK=>stepc enterRound rfl (args2 kn.1 kn.2.1) (round_run X _ ww HX.out) (fun w' hb=>hK _ _ ⟨touch_below hb,rfl⟩)⟩),
        (fun _ _ _ _ _ _ fr kn=>.inl ⟨trivial,fun K hK=>act_arr rfl isW fr.1 kn.1 (obAt kn.2.1) (fun w2 hg ho=>hK _ _ ⟨⟨touch_only ho,obIn hg⟩,trivial⟩)⟩),
        trivial⟩ ?_
      intro vs own v6 hT6 hs6 kn inj
      clear inj hs6
      replace gv:ArrAt v6 (w.heap.size+1+1+1) .u32 238 16 (rndM X fun j=>bwd bl (ord k j)):=obAt kn.1
      clear kn HM HT hT5
      simp only[putAll,Act.put,List.setIfInBounds_toArray,List.set_cons_zero,List.set_cons_succ]
      have HW6:=Hid.mk (rndM_w (m:=fun j=>bwd bl (ord k j)) HX.out)
      rw[HN.out] at gv HW6
      go_wp2_with fail
      go_roundg (10-(k+1))
      case rel=>exact ⟨k+1,Hid.mk (by omega),by go_num,gv,HW6,hT6⟩
      case measure=>have:=HK.out;omega
     ·have hk2:k=10:=by omega
      subst hk2
      have HTF:Hid (∀ q,q<8→takeF h bl t true q=xorw (h q) (xorw (tenB (bwd bl) (begV h t true) 10 q) (tenB (bwd bl) (begV h t true) 10 (8+q)))):=Hid.mk (fun q _=>by unfold takeF;rw[xorw_assoc,Nat.add_comm q 8])
      generalize tenB (bwd bl) (begV h t true) 10=vt at *
      replace g0:=g0.touch hT5 (by omega)
      replace g2:=g2.touch hT5 (by omega)
      replace hB:=belowT hB hT5 (by omega) (Nat.le_refl _)
      clear hT5 hk hk10 HK gm HT5
      go_wp2_with fail
      rw[show ((10:Nat):Int)=10 from rfl]
      generalize wr=wo3 at *
      go_loopg [58] 8 (fun gm iv v=>∃ j:Nat,Hid (gm+j=8)∧iv=.int .i64 (j:Int)∧ArrAt v w.heap.size .u32 194 8 (ovr (takeF h bl t true) h j)∧ArrAt v (w.heap.size+1+1) .u32 194 8 (fun _=>0)∧ArrAt v (w.heap.size+1+1+1) .u32 238 16 vt∧Below w.heap.size w v)
      case atStart=>exact ⟨0,Hid.mk rfl,rfl,by rw[ovr_zero];exact g0,g2,gv,hB⟩
      case round =>
       clear g0 g2 gv hB
       obtain ⟨j,HJ,rfl,g0,g2,gv,hB⟩:=hrel
       have hj8:j≤8:=by have:=HJ.out;omega
       by_cases hj:j<8
       ·have c0:=g0.cell j hj
        have f0:=g0.free j
        rw[ovr_at] at c0
        have c1:=gv.cell j (by omega)
        have c2:=gv.cell (8+j) (by omega)
        have e1:=xor_u32 (HX.out j (by omega)) (HX.out (8+j) (by omega))
        have e2:=xor_u32 (hh j hj) (xorw_w (HX.out j (by omega)) (HX.out (8+j) (by omega)))
        have HG:=Hid.mk (g0.set j (takeF h bl t true j) hj)
        rw[ovr_next] at HG
        rw[HTF.out j hj] at HG
        generalize xorw (vt j) (vt (8+j))=x1 at *
        generalize xorw (h j) x1=x2 at *
        go_wp2_with fail
        go_region
        go_wp2_with fail
        go_roundg (8-(j+1))
        case rel=>exact ⟨j+1,Hid.mk (by omega),by go_num,HG.out,(g2.other _ (by omega)),(gv.other _ (by omega)),(Below.setCell hB (by simp) _).drew⟩
        case measure=>have:=HJ.out;omega
       ·have hj2:j=8:=by omega
        subst hj2
        replace g0:=g0.congr (s':=takeF h bl t true) ovr_full
        clear hj hj8 HJ HTF
        go_wp2_with (first|(refine ld_arr isSt g0 (by rfl) ?_)|(refine st_arr isSt g2 (by rfl) (by rfl) ?_;intro v9 g9 o9))
        exact bodyPost_ret (v:=.agg (WA .u32 8 (takeF h bl t true))) (res_arr rfl isSt g9 rfl) rfl ⟨rfl,hB.trans (o9.below (by omega))⟩
theorem isSt':IsArr 194 8:=⟨_,_,Tryz.underlying194,by kernel_rfl⟩
theorem bytes_run (h:Nat→Int) (w:World) (hh:∀ i,i<8→W32 (h i)) :
  Calls Tryz.prog 173 #[.agg (WA .u32 8 h)] w fun e w'=>e=.returned (.agg (WA .u8 32 (outF h)))∧Below w.heap.size w w':=by
 have g0:ArrAt (((w.alloc (.cells (WA .u32 8 h) 194)).alloc (.cells (WA .u8 32 fun _=>0) 22)).alloc (.cells (WA .u8 32 fun _=>0) 22)) w.heap.size .u32 194 8 h:=heap_a31 w _ _ _
 have g1:ArrAt (((w.alloc (.cells (WA .u32 8 h) 194)).alloc (.cells (WA .u8 32 fun _=>0) 22)).alloc (.cells (WA .u8 32 fun _=>0) 22)) (w.heap.size+1) .u8 22 32 (fun _=>0):=heap_a32 w _ _ _
 have g2:ArrAt (((w.alloc (.cells (WA .u32 8 h) 194)).alloc (.cells (WA .u8 32 fun _=>0) 22)).alloc (.cells (WA .u8 32 fun _=>0) 22)) (w.heap.size+1+1) .u8 22 32 (fun _=>0):=heap_a3 w _ _ _
 have hB:Below w.heap.size w (((w.alloc (.cells (WA .u32 8 h) 194)).alloc (.cells (WA .u8 32 fun _=>0) 22)).alloc (.cells (WA .u8 32 fun _=>0) 22)):=(((Below.refl _ w).alloc (by simp) _).alloc (by simp) _).alloc (by simp;omega) _
 go_enter Tryz.func173,Tryz.ntmps173
 go_wp2_with fail
 go_loopg [5] 32 (fun m i v=>∃ j:Nat,Hid (m+j=32)∧i=.int .i64 j∧ArrAt v w.heap.size .u32 194 8 h∧ArrAt v (w.heap.size+1) .u8 22 32 (fun _=>0)∧ArrAt v (w.heap.size+1+1) .u8 22 32 (prt (outF h) j)∧Below w.heap.size w v)
 case atStart=>exact ⟨0,Hid.mk rfl,rfl,g0,g1,by rw[prt_zero];exact g2,hB⟩
 case round =>
  clear g0 g1 g2 hB
  obtain ⟨j,HJ,rfl,g0,g1,g2,hB⟩:=hrel
  have hj32:j≤32:=by have:=HJ.out;omega
  by_cases hlt:j<32
  ·have HN:=Hid.mk (prt_next (outF h) j)
   have hq:((j:Nat):Int).tdiv 4=((j/4:Nat):Int):=by rw[Int.tdiv_eq_ediv_of_nonneg (by omega)];rfl
   have hr:((j:Nat):Int).tmod 4=((j%4:Nat):Int):=by rw[Int.tmod_eq_emod_of_nonneg (by omega)];rfl
   have ha:j/4<8:=by omega
   have c0:=g0.cell (j/4) ha
   have w0:=hh (j/4) ha
   unfold W32 at w0
   have c2:=g2.cell j hlt
   have f2:=g2.free j
   have HO:Hid (outF h j=h (j/4)/256 ^ (j%4)%256):=Hid.mk rfl
   have hb:j%4=0∨j%4=1∨j%4=2∨j%4=3:=by omega
   generalize j/4=a at *
   generalize h a=x at *
   have HG:=Hid.mk (g2.set j (outF h j) hlt)
   rw[HN.out] at HG
   rcases hb with hb | hb | hb | hb
   ·rw[hb] at HO hr
    have HO2:Hid (outF h j=x%256):=Hid.mk (by rw[HO.out];simp)
    rw[HO2.out] at HG
    clear HO HN
    go_wp2_with fail
    go_roundg (32-(j+1))
    case rel=>exact ⟨j+1,Hid.mk (by omega),by go_num,g0.other _ (by omega),g1.other _ (by omega),HG.out,Below.setCell hB (by simp;omega) _⟩
    case measure=>have:=HJ.out;omega
   ·rw[hb] at HO hr
    have HO2:Hid (outF h j=x/256%256):=Hid.mk (by rw[HO.out];simp)
    rw[HO2.out] at HG
    clear HO HN
    go_wp2_with fail
    go_roundg (32-(j+1))
    case rel=>exact ⟨j+1,Hid.mk (by omega),by go_num,g0.other _ (by omega),g1.other _ (by omega),HG.out,Below.setCell hB (by simp;omega) _⟩
    case measure=>have:=HJ.out;omega
   ·rw[hb] at HO hr
    have HO2:Hid (outF h j=x/65536%256):=Hid.mk (by rw[HO.out];simp)
    rw[HO2.out] at HG
    clear HO HN
    go_wp2_with fail
    go_roundg (32-(j+1))
    case rel=>exact ⟨j+1,Hid.mk (by omega),by go_num,g0.other _ (by omega),g1.other _ (by omega),HG.out,Below.setCell hB (by simp;omega) _⟩
    case measure=>have:=HJ.out;omega
   ·rw[hb] at HO hr
    have HO2:Hid (outF h j=x/16777216):=Hid.mk (by rw[HO.out];simp;omega)
    rw[HO2.out] at HG
    clear HO HN
    go_wp2_with fail
    go_roundg (32-(j+1))
    case rel=>exact ⟨j+1,Hid.mk (by omega),by go_num,g0.other _ (by omega),g1.other _ (by omega),HG.out,Below.setCell hB (by simp;omega) _⟩
    case measure=>have:=HJ.out;omega
  ·have hj2:j=32:=by omega
   subst hj2
   clear hlt hj32 HJ
   replace g2:=g2.congr (s':=outF h) prt_full
   go_wp2_with (first|(refine ld_arr isArr32 g2 (by rfl) ?_)|(refine st_arr isArr32 g1 (by rfl) (by rfl) ?_;intro v4 g4 o4))
   exact bodyPost_ret (v:=.agg (WA .u8 32 (outF h))) (res_arr rfl isArr32 g4 rfl) rfl ⟨rfl,hB.trans (o4.below (by omega))⟩
theorem firstState_run (size kl:Nat) (w:World) (hT:Tabs w) (hs:size≤64) (hk:kl≤64) :
  Calls Tryz.prog 171 #[.int .i64 (size:Int),.int .i64 (kl:Int)] w fun e w'=>e=.returned (.agg (WA .u32 8 (h0F size kl)))∧Below w.heap.size w w':=by
 have g0:ArrAt ((w.alloc (.cells (WA .u32 8 fun _=>0) 194)).alloc (.cells (WA .u32 8 fun _=>0) 194)) w.heap.size .u32 194 8 (fun _=>0):=heap_alloc2_old w _ _
 have g1:ArrAt ((w.alloc (.cells (WA .u32 8 fun _=>0) 194)).alloc (.cells (WA .u32 8 fun _=>0) 194)) (w.heap.size+1) .u32 194 8 (fun _=>0):=heap_alloc2_new w _ _
 have hB:Below w.heap.size w ((w.alloc (.cells (WA .u32 8 fun _=>0) 194)).alloc (.cells (WA .u32 8 fun _=>0) 194)):=((Below.refl _ w).alloc (by simp) _).alloc (by simp) _
 have hTw:=Hid.mk hT
 have h2:=hT.two
 go_enter Tryz.func171,Tryz.ntmps171
 go_wp2_with fail
 go_loopg [7] 8 (fun m i v=>∃ j:Nat,Hid (m+j=8)∧i=.int .i64 j∧ArrAt v w.heap.size .u32 194 8 (fun _=>0)∧ArrAt v (w.heap.size+1) .u32 194 8 (prt bgn j)∧Below w.heap.size w v)
 case atStart=>exact ⟨0,Hid.mk rfl,rfl,g0,by rw[prt_zero];exact g1,hB⟩
 case round =>
  clear g0 g1 hB
  obtain ⟨j,HJ,rfl,g0,g1,hB⟩:=hrel
  have hj8:j≤8:=by have:=HJ.out;omega
  by_cases hlt:j<8
  ·have co:=(hTw.out.below hB h2).beg j hlt
   have HN:=Hid.mk (prt_next bgn j)
   have c1:=g1.cell j hlt
   have f1:=g1.free j
   generalize bgn j=o at *
   go_wp2_with fail
   go_roundg (8-(j+1))
   case rel=>exact ⟨j+1,Hid.mk (by omega),by go_num,g0.other _ (by omega),by rw[← HN.out];exact g1.set j _ hlt,Below.setCell hB (by simp) _⟩
   case measure=>have:=HJ.out;omega
  ·have hj2:j=8:=by omega
   subst hj2
   clear hlt hj8 HJ
   replace g1:=g1.congr (s':=bgn) prt_full
   have c1:=g1.cell 0 (by omega)
   have f1:=g1.free 0
   have wb:=bgn_w 0
   have k1:W32 ((kl:Int)*256):=by unfold W32;omega
   have k2:W32 (size:Int):=by unfold W32;omega
   have x1:=xor_u32 (x:=16842752) (by unfold W32;omega) k1
   have x2:=xor_u32 (xorw_w (x:=16842752) (by unfold W32;omega) k1) k2
   have x3:=xor_u32 wb (xorw_w (xorw_w (x:=16842752) (by unfold W32;omega) k1) k2)
   have HE:Hid (upd bgn 0 (xorw (bgn 0) (xorw (xorw 16842752 ((kl:Int)*256)) (size:Int)))=h0F size kl):=Hid.mk (by
    unfold h0F
    rw[Int.mul_comm (kl:Int) 256]
    unfold xorw
    simp only[Int.toNat_natCast,Nat.xor_assoc])
   have HG:=Hid.mk (g1.set 0 (xorw (bgn 0) (xorw (xorw 16842752 ((kl:Int)*256)) (size:Int))) (by omega))
   rw[HE.out] at HG
   replace g0:=g0.other (g:=w.heap.size+1) (i:=0) (.int .u32 (xorw (bgn 0) (xorw (xorw 16842752 ((kl:Int)*256)) (size:Int)))) (by omega)
   replace hB:=Below.setCell hB (p:=⟨w.heap.size+1,0,none⟩) (by simp) (.int .u32 (xorw (bgn 0) (xorw (xorw 16842752 ((kl:Int)*256)) (size:Int))))
   generalize xorw 16842752 ((kl:Int)*256)=y1 at *
   generalize xorw y1 (size:Int)=y2 at *
   generalize xorw (bgn 0) y2=y3 at *
   clear g1 HE
   have g1:=HG.out
   go_wp2_with (first|(refine ld_arr isSt' g1 (by rfl) ?_)|(refine st_arr isSt' g0 (by rfl) (by rfl) ?_;intro v4 g4 o4))
   exact bodyPost_ret (v:=.agg (WA .u32 8 (h0F size kl))) (res_arr rfl isSt' g4 rfl) rfl ⟨rfl,hB.trans (o4.below (by omega))⟩
def hshV (H:Nat→Int) (t:Int) (B:Nat→Int) (l:Int) (i:Nat):Value:=if i<8 then .int .u32 (H i) else if i<9 then .int .u64 t else if i<73 then .int .u8 (B (i-9)) else .int .i64 l
def hshC (H:Nat→Int) (t:Int) (B:Nat→Int) (l:Int):Array Value:=((List.range 74).map (hshV H t B l)).toArray
theorem hshC_size (H:Nat→Int) (t:Int) (B:Nat→Int) (l:Int):(hshC H t B l).size=74:=by simp[hshC]
theorem hshC_get (H:Nat→Int) (t:Int) (B:Nat→Int) (l:Int) (i:Nat) (h:i<74):(hshC H t B l)[i]?=some (hshV H t B l i):=by simp[hshC,h]
theorem hshC_ext {cs:Array Value} {H:Nat→Int} {t:Int} {B:Nat→Int} {l:Int} (hs:cs.size=74) (h:∀ i,i<74→cs[i]?=some (hshV H t B l i)):cs=hshC H t B l:=by
 apply Array.ext_getElem?
 intro i
 by_cases hi:i<74
 ·rw[h i hi,hshC_get H t B l i hi]
 ·rw[Array.getElem?_eq_none (by omega),Array.getElem?_eq_none (by rw[hshC_size];omega)]
def HashAt (w:World) (b:Nat) (H:Nat→Int) (t:Int) (B:Nat→Int) (l:Int):Prop:=w.heap[b]?=some (.cells (hshC H t B l) 197 (0,0))
section
variable {w w':World} {b:Nat} {H B:Nat→Int} {t l:Int}
theorem HashAt.at (h:HashAt w b H t B l) (i:Nat) (hi:i<74):w.cell? ⟨b,i,none⟩=some (hshV H t B l i):=by
 rw[cell_of_row w b i _ _ _ h,hshC_get H t B l i hi]
theorem HashAt.free (h:HashAt w b H t B l) (i:Nat):w.frozen? ⟨b,i,none⟩=false:=frozen_of_row w b i _ _ h
theorem HashAt.lt (h:HashAt w b H t B l):b<w.heap.size:=heap_lt h
theorem HashAt.block (h:HashAt w b H t B l) (e:w'.heap[b]?=w.heap[b]?):HashAt w' b H t B l:=e.trans h
theorem HashAt.alloc (h:HashAt w b H t B l) (o:Obj):HashAt (w.alloc o) b H t B l:=h.block (Below.heap_alloc _ _ _ h.lt)
theorem HashAt.drew (h:HashAt w b H t B l):HashAt w.drew b H t B l:=h
theorem HashAt.st (h:HashAt w b H t B l):w.rangeAt b 0 (nums .u32 8 H):=fun j v hj=>by
 obtain ⟨hj2,rfl⟩:=nums_get hj
 rw[Nat.zero_add,h.at j (by omega)]
 unfold hshV
 rw[if_pos hj2]
theorem HashAt.bk (h:HashAt w b H t B l):w.rangeAt b 9 (nums .u8 64 B):=fun j v hj=>by
 obtain ⟨hj2,rfl⟩:=nums_get hj
 rw[h.at (9+j) (by omega)]
 unfold hshV
 rw[if_neg (by omega),if_neg (by omega),if_pos (by omega),Nat.add_sub_cancel_left]
theorem HashAt.taken (h:HashAt w b H t B l):w.cell? ⟨b,8,none⟩=some (.int .u64 t):=h.at 8 (by decide)
theorem HashAt.held (h:HashAt w b H t B l):w.cell? ⟨b,73,none⟩=some (.int .i64 l):=h.at 73 (by decide)
theorem HashAt.cells {o:Nat} (h:HashAt w b H t B l) (vs:List Value) (hl:o+vs.length≤74) {H' B':Nat→Int} {t' l':Int}
  (h1:∀ j,j<vs.length→vs[j]?=some (hshV H' t' B' l' (o+j))) (h2:∀ i,i<74→i<o∨o+vs.length≤i→hshV H' t' B' l' i=hshV H t B l i):HashAt (w.setCells b o vs) b H' t' B' l'∧Only b w (w.setCells b o vs):=by
 obtain ⟨C',k1,k2,k3,k4,k5⟩:=setCells_heap vs o w _ h (by rw[hshC_size];exact hl)
 refine ⟨?_,k5⟩
 have e:C'=hshC H' t' B' l':=by
  refine hshC_ext (by rw[k2,hshC_size]) (fun i hi=>?_)
  by_cases c:i<o∨o+vs.length≤i
  ·rw[k4 i c,hshC_get _ _ _ _ i hi,h2 i hi c]
  ·have:=k3 (i-o) (by omega)
   rw[show o+(i-o)=i by omega] at this
   rw[this,h1 (i-o) (by omega),show o+(i-o)=i by omega]
 unfold HashAt
 rw[← e]
 exact k1
theorem HashAt.setSt (h:HashAt w b H t B l) (H':Nat→Int):HashAt (w.setCells b 0 (nums .u32 8 H')) b H' t B l∧Only b w (w.setCells b 0 (nums .u32 8 H')):=by
 refine h.cells (nums .u32 8 H') (by rw[nums_len];omega) (fun j hj=>?_) (fun i hi hc=>?_)
 ·rw[nums_len] at hj
  rw[nums_at .u32 8 H' hj]
  unfold hshV
  rw[if_pos (by omega),Nat.zero_add]
 ·rw[nums_len] at hc
  have r:¬ i<8:=by omega
  unfold hshV
  rw[if_neg r,if_neg r]
theorem HashAt.setBk (h:HashAt w b H t B l) (o m:Nat) (r:Nat→Int) (hm:o+m≤64):HashAt (w.setCells b (9+o) (nums .u8 m r)) b H t (over B o m r) l∧Only b w (w.setCells b (9+o) (nums .u8 m r)):=by
 refine h.cells (nums .u8 m r) (by rw[nums_len];omega) (fun j hj=>?_) (fun i hi hc=>?_)
 ·rw[nums_len] at hj
  rw[nums_at .u8 m r hj]
  unfold hshV over
  rw[if_neg (by omega),if_neg (by omega),if_pos (by omega),if_pos (by omega),show 9+o+j-9-o=j by omega]
 ·rw[nums_len] at hc
  unfold hshV over
  split
  ·rfl
  split
  ·rfl
  split
  ·rw[if_neg (by omega)]
  ·rfl
theorem HashAt.setTaken (h:HashAt w b H t B l) (t':Int):HashAt (w.setCell ⟨b,8,none⟩ (.int .u64 t')) b H t' B l:=by
 have h1:=(h.cells (o:=8) [.int .u64 t'] (by simp) (H':=H) (t':=t') (B':=B) (l':=l) (fun j hj=>by
  have:j=0:=by simpa using hj
  subst this
  rfl) (fun i hi hc=>by
   simp at hc
   unfold hshV
   split
   ·rfl
   split
   ·omega
   ·rfl)).1
 exact h1
theorem HashAt.setHeld (h:HashAt w b H t B l) (l':Int):HashAt (w.setCell ⟨b,73,none⟩ (.int .i64 l')) b H t B l':=by
 have h1:=(h.cells (o:=73) [.int .i64 l'] (by simp) (H':=H) (t':=t) (B':=B) (l':=l') (fun j hj=>by
  have:j=0:=by simpa using hj
  subst this
  rfl) (fun i hi hc=>by
   simp at hc
   unfold hshV
   split
   ·rfl
   split
   ·rfl
   split
   ·rfl
   ·omega)).1
 exact h1
theorem HashAt.congr {B':Nat→Int} (h:HashAt w b H t B l) (e:∀ i,i<64→B i=B' i):HashAt w b H t B' l:=by
 have:hshC H t B l=hshC H t B' l:=hshC_ext (hshC_size _ _ _ _) (fun i hi=>by
  rw[hshC_get _ _ _ _ i hi]
  unfold hshV
  split
  ·rfl
  split
  ·rfl
  split
  ·rw[e (i-9) (by omega)]
  ·rfl)
 unfold HashAt
 rw[← this]
 exact h
end
theorem below_touch' (b:Nat) {w w':World} (h:Below w.heap.size w w'):Touch (fun x=>x=b) w w':=⟨h.os,h.tape,h.output,h.size,fun k hk _=>h.block k hk⟩
theorem run_fh (b k:Nat) (w:World):k<4→(Instr.fieldAt 197 (.pointer (some ⟨b,0,none⟩)) k).run Tryz.prog w=.ok (.pointer (some ⟨b,[0,8,9,73].getD k 0,none⟩)) w:=by
 intro hk
 match k,hk with
 | 0,_=>simp[go_sem]
 | 1,_=>simp[go_sem]
 | 2,_=>simp[go_sem]
 | 3,_=>simp[go_sem]
theorem exec_fh {a:Act} {o:Oper} {w:World} {x:Operand} {k:Nat} (ho:o.op=.fieldAddr 197 x k) {b:Nat} (hx:a.eval x=.pointer (some ⟨b,0,none⟩)) (hk:k<4):(execOp a.eval o).run Tryz.prog w=.ok (.value (.pointer (some ⟨b,[0,8,9,73].getD k 0,none⟩))) w:=by
 have h:=run_fh b k w hk
 unfold execOp
 simp only[ho,hx,Sem.run_bind,h,Result.andThen_ok,Sem.run_pure]
theorem run_load64 {w:World} {p:Addr} {n:Int} (h:w.cell? p=some (.int .u64 n)):(Instr.loadAt 98 (.pointer (some p))).run Tryz.prog w=.ok (.int .u64 n) w:=by
 simp[go_sem,h]
theorem act_stst {o:Oper} {a:Act} {w:World} {K:Act→World→Prop} {Q:Exit→Act→World→Prop} {x y:Operand} (ho:o.op=.store 194 x y) {b:Nat} {H B s:Nat→Int} {t l:Int} (hx:a.eval x=.pointer (some ⟨b,0,none⟩)) (hy:a.eval y=.agg (WA .u32 8 s)) (gm:HashAt w b H t B l)
  (h:∀ w2,HashAt w2 b s t B l→Only b w w2→K (a.put o.dst undef) w2):o.wp Tryz.prog a w K Q:=by
 obtain ⟨_,_,_,h3⟩:=isSt
 have h2:=gm.setSt s
 exact wp_store_mid 194 x y ho b 0 (WA .u32 8 s) hx hy (fun j hj=>by rw[WA_size] at hj;exact ⟨by rw[gm.at (0+j) (by omega)];rfl,gm.free _⟩) (by rw[WA_size];exact h3) (WA_one .u32 8 s) (h _ h2.1 h2.2)
theorem enterBehindS (args:Array Value) (w:World):(callFunc 197 args).run Tryz.prog w=.ok (.enter 197 args) w:=by kernel_rfl
theorem take_run (b l:Nat) (H B:Nat→Int) (t:Int) (last:Bool) (w:World) (hTw:Tabs w) (hb2:3≤b) (gm:HashAt w b H t B (l:Int)) (hH:∀ i,i<8→W32 (H i)) (hB:Byts 64 B) (ht:0≤t) (htl:t+(l:Int)<18446744073709551616) (hl:l≤64) :
  Calls Tryz.prog 172 #[.pointer (some ⟨b,0,none⟩),.bool last] w fun e w'=>e=.returned (.tuple #[])∧HashAt w' b (takeF H B (t+(l:Int)) last) (t+(l:Int)) B 0∧Touch (fun x=>x=b) w w':=by
 have HT:Hid (∀ u,Touch (fun x=>x=b) w u→Tabs u):=Hid.mk (fun u hu=>hTw.touch hu hb2)
 have HTT:Hid (0≤t+(l:Int)∧t+(l:Int)<18446744073709551616):=Hid.mk (by omega)
 have ct:=gm.taken
 have ch:=gm.held
 have ft:=gm.free 8
 have gm1:=gm.setTaken (t+(l:Int))
 have hT1:Touch (fun x=>x=b) w (w.setCell ⟨b,8,none⟩ (.int .u64 (t+(l:Int)))):=touch_only only_set
 clear gm
 go_enter Tryz.func172,Tryz.ntmps172
 go_wp2_with fail
 go_region
 go_wp2_with fail
 refine wp_gen (fun v=>HashAt v b H (t+(l:Int)) B (l:Int)∧Touch (fun x=>x=b) w v) ⟨gm1,by first | exact hT1.drew | exact hT1⟩ ?_
 clear gm1 hT1 ct ch ft
 rintro v0 ⟨gm,hT⟩
 refine wp_region3 (Touch (fun x=>x=b) w) v0.heap.size
  [(b,once (hshC (H) (t+(l:Int)) B (l:Int)) 197 17 (hshC (takeF H B (t+(l:Int)) last) (t+(l:Int)) B (l:Int)))]
  [kv (.pointer (some ⟨b,0,none⟩)),kv (.pointer (some ⟨b,0,none⟩)),kv (.pointer (some ⟨b,0,none⟩)),kv (.pointer (some ⟨b,0,none⟩)),kv (.agg (WA .u32 8 H)),kv (.pointer (some ⟨b,0,none⟩)),kv (.pointer (some ⟨b,0,none⟩)),kv (.pointer (some ⟨b,9,none⟩)),kv (.agg (WA .u8 64 B)),kv (.pointer (some ⟨b,0,none⟩)),kv (.pointer (some ⟨b,0,none⟩)),kv (.pointer (some ⟨b,8,none⟩)),kv (.int .u64 (t+(l:Int))),kv (.bool last),kv (.agg (WA .u32 8 (takeF H B (t+(l:Int)) last))),kv (.pointer (some ⟨b,0,none⟩)),kv (.pointer (some ⟨b,0,none⟩)),.val fun _=>True]
  [.none,.none,.none,.none,.none,.none,.none,.none,.none,.none,.none,.none,.none,.none,.none,.none,.none,.base 0 1]
  [some 16,some 17,some 18,some 19,some 20,some 21,some 22,some 23,some 24,some 25,some 26,some 27,some 28,some 29,some 30,some 31,some 32,none]
  [(0,.pointer (some ⟨b,0,none⟩)),(1,.bool last)]
  [[],[],[.slot 1],[.slot 2],[.slot 3,.base 0 0],[],[.slot 5],[.slot 6],[.slot 7,.base 0 0],[],[.slot 9],[.slot 10],[.slot 11,.base 0 0],[],[.slot 4,.slot 8,.slot 12,.slot 13],[.slot 0],[.slot 15],[.slot 16,.slot 14,.base 0 0]]
  [.base 0 1] [16,17,18,19,20,21,22,23,24,25,26,27,28,29,30,31,32]
  rfl (by kernel_rfl) ⟨rfl,rfl,trivial⟩ (Touch.drew hT) (Nat.le_refl _) ⟨⟨gm.lt,obIn gm⟩,trivial⟩ ⟨trivial,trivial⟩ (touch_S hT.size)
  ⟨
   (fun _ _ _ _ _ _ fr _=>sV (exec_move rfl fr.1)),
   (fun _ _ _ _ _ _ fr _=>sV (exec_move rfl fr.1)),
   (fun _ _ _ _ _ _ _ kn=>sV (exec_nilc rfl kn.1)),
   (fun _ _ _ _ _ _ _ kn=>sV (exec_fh (k:=0) rfl kn.1 (by decide))),
   (fun _ _ _ _ _ _ _ kn=>sV (exec_ldmid rfl isSt kn.1 (HashAt.st (obAt kn.2.1)))),
   (fun _ _ _ _ _ _ fr _=>sV (exec_move rfl fr.1)),
   (fun _ _ _ _ _ _ _ kn=>sV (exec_nilc rfl kn.1)),
   (fun _ _ _ _ _ _ _ kn=>sV (exec_fh (k:=2) rfl kn.1 (by decide))),
   (fun _ _ _ _ _ _ _ kn=>sV (exec_ldmid rfl isB64 kn.1 (HashAt.bk (obAt kn.2.1)))),
   (fun _ _ _ _ _ _ fr _=>sV (exec_move rfl fr.1)),
   (fun _ _ _ _ _ _ _ kn=>sV (exec_nilc rfl kn.1)),
   (fun _ _ _ _ _ _ _ kn=>sV (exec_fh (k:=1) rfl kn.1 (by decide))),
   (fun _ _ _ _ _ _ _ kn=>sV (exec_ld rfl kn.1 (run_load64 (HashAt.taken (obAt kn.2.1))))),
   (fun _ _ _ _ _ _ fr _=>sV (exec_move rfl fr.2.1)),
   (fun _ _ ww _ hS _ _ kn=>.inl ⟨trivial,fun K hK=>stepc enterBehindS rfl (args4 kn.1 kn.2.1 kn.2.2.1 kn.2.2.2.1) (hbehind_run H B _ last ww (HT.out ww hS) hH hB HTT.out) (fun w' hb=>hK _ _ ⟨touch_below hb,rfl⟩)⟩),
   (fun _ _ _ _ _ _ _ kn=>sV (exec_nilc rfl kn.1)),
   (fun _ _ _ _ _ _ _ kn=>sV (exec_fh (k:=0) rfl kn.1 (by decide))),
   (fun _ _ _ _ _ _ _ kn=>.inl ⟨trivial,fun K hK=>act_stst rfl kn.1 kn.2.1 (obAt kn.2.2.1) (fun w2 hg ho=>hK _ _ ⟨⟨touch_only ho,obIn hg⟩,trivial⟩)⟩),
   trivial⟩ ?_
 intro vs own v1 hT1 hs1 kn inj
 clear inj hs1 gm hT
 have gm:HashAt v1 b (takeF H B (t+(l:Int)) last) (t+(l:Int)) B (l:Int):=obAt kn.1
 clear kn
 simp only[putAll,Act.put,List.setIfInBounds_toArray,List.set_cons_zero,List.set_cons_succ]
 have ch:=gm.held
 have fh:=gm.free 73
 have gm2:=gm.setHeld 0
 go_wp2_with fail
 refine bodyPost_end (results_none rfl _ _ _) rfl ?_
 exact ⟨rfl,gm2,hT1.trans (touch_only only_set)⟩
theorem begV_w {h:Nat→Int} {t:Int} (last:Bool) (hh:∀ i,i<8→W32 (h i)) (ht:0≤t∧t<18446744073709551616):∀ i,i<16→W32 (begV h t last i):=fun i hi=>by
 unfold begV
 split
 ·exact hh i (by omega)
 split
 ·exact xorw_w (bgn_w 4) (by unfold W32;omega)
 split
 ·exact xorw_w (bgn_w 5) (by unfold W32;omega)
 split
 ·exact xorw_w (bgn_w 6) (by unfold W32;omega)
 ·exact bgn_w _
theorem tenB_w {m v:Nat→Int} (h:∀ i,i<16→W32 (v i)):∀ k i,i<16→W32 (tenB m v k i)
 | 0,i,hi=>h i hi
 | k+1,i,hi=>by
  have e:tenB m v (k+1)=rndM (tenB m v k) (fun j=>m (ord k j)):=round_eq m k _
  rw[e]
  exact rndM_w (tenB_w h k) i hi
theorem takeF_w {h s:Nat→Int} {t:Int} (last:Bool) (hh:∀ i,i<8→W32 (h i)) (ht:0≤t∧t<18446744073709551616):∀ i,i<8→W32 (takeF h s t last i):=fun i hi =>
 xorw_w (xorw_w (hh i hi) (tenB_w (begV_w last hh ht) 10 i (by omega))) (tenB_w (begV_w last hh ht) 10 (i+8) (by omega))
theorem stF_w {all:ByteArray} {h0:Nat→Int} (hh:∀ i,i<8→W32 (h0 i)):∀ k,k≤144115188075855872→∀ i,i<8→W32 (stF all h0 k i)
 | 0,_=>hh
 | k+1,hk=>takeF_w _ (stF_w hh k (by omega)) (by omega)
structure HashK (w:World) (b:Nat) (all:ByteArray) (h0:Nat→Int) (k h:Nat) (B:Nat→Int):Prop where
 at':HashAt w b (stF all h0 k) ((64*k:Nat):Int) B (h:Int)
 bs:Byts 64 B
 eq:∀ j,j<h→B j=txt all (64*k+j)
def HashN (w:World) (b:Nat) (all:ByteArray) (h0:Nat→Int) (n:Nat):Prop:=∃ k h B,64*k+h=n∧h≤64∧(h=0→k=0)∧HashK w b all h0 k h B
theorem HashK.block {w w':World} {b:Nat} {all:ByteArray} {h0:Nat→Int} {k h:Nat} {B:Nat→Int} (g:HashK w b all h0 k h B) (e:w'.heap[b]?=w.heap[b]?):HashK w' b all h0 k h B:=⟨g.at'.block e,g.bs,g.eq⟩
theorem HashN.block {w w':World} {b:Nat} {all:ByteArray} {h0:Nat→Int} {n:Nat} (g:HashN w b all h0 n) (e:w'.heap[b]?=w.heap[b]?):HashN w' b all h0 n:=by
 obtain ⟨k,h,B,h1,h2,h3,h4⟩:=g
 exact ⟨k,h,B,h1,h2,h3,h4.block e⟩
theorem HashN.lt {w:World} {b:Nat} {all:ByteArray} {h0:Nat→Int} {n:Nat} (g:HashN w b all h0 n):b<w.heap.size:=by
 obtain ⟨k,h,B,h1,h2,h3,h4⟩:=g
 exact h4.at'.lt
theorem HashN.kept {w w':World} {b:Nat} {all:ByteArray} {h0:Nat→Int} {n:Nat} (g:HashN w b all h0 n) (hb:Below w.heap.size w w'):HashN w' b all h0 n:=g.block (hb.block b g.lt)
theorem stF_mid {all:ByteArray} {h0:Nat→Int} {k:Nat} (h:64*k+64<all.size):takeF (stF all h0 k) (fun j=>txt all (64*k+j)) (((64*k:Nat):Int)+((64:Nat):Int)) false=stF all h0 (k+1):=by
 have e1:min 64 (all.size-64*k)=64:=by omega
 show _=takeF (stF all h0 k) (fun j=>txt all (64*k+j)) ((64*k+min 64 (all.size-64*k):Nat):Int) (decide (64*k+min 64 (all.size-64*k)=all.size))
 rw[e1,decide_eq_false (by omega)]
 rfl
theorem stF_end {all:ByteArray} {h0:Nat→Int} {k h:Nat} (e:64*k+h=all.size) (h64:h≤64) (hz:h=0→k=0):takeF (stF all h0 k) (fun j=>txt all (64*k+j)) (((64*k:Nat):Int)+(h:Int)) true=stF all h0 (nbF all.size):=by
 have e1:min 64 (all.size-64*k)=h:=by omega
 have e2:nbF all.size=k+1:=by
  unfold nbF
  split<;>omega
 rw[e2]
 show _=takeF (stF all h0 k) (fun j=>txt all (64*k+j)) ((64*k+min 64 (all.size-64*k):Nat):Int) (decide (64*k+min 64 (all.size-64*k)=all.size))
 rw[e1,decide_eq_true e]
 rfl
theorem txt_beyond (s:ByteArray) (j:Nat) (h:s.size≤j):txt s j=0:=by
 unfold txt
 have:s.data.toList.length≤j:=by simpa using h
 rw[List.getD_eq_getElem?_getD,List.getElem?_eq_none this]
 rfl
theorem copy_hash {w:World} {b h m dC:Nat} {H B:Nat→Int} {t l:Int} (ty:TypeId) (s:ByteArray) (gm:HashAt w b H t B l) (hm:m=min s.size (64-h)) :
  (Builtin.copy_ #[81,9] ty #[.slice (some ⟨b,9+h,none⟩) (64-h) dC,.string s]).run Tryz.prog w=.ok (goInt m) (w.setCells b (9+h) (nums .u8 m (txt s))):=by
 have hmin:Nat.min s.size (64-h)=m:=hm.symm
 have hst:=run_storeCells_cells (P:=Tryz.prog) b (9+h) (nums .u8 m (txt s)) 0 w (by
   intro j hj
   rw[nums_len] at hj
   rw[Nat.add_zero,gm.at _ (by omega)]
   rfl) (fun j _=>gm.free _) nums_one
 simp[Builtin.copy_,run_underlying Tryz.underlying81,Builtin.lenOf,Builtin.firstCells,hmin]
 rw[take_nums s m (by omega),hst]
 rfl
theorem joinB_at (ts:Nat→ByteArray) {i cnt:Nat} (hi:i<cnt) {j:Nat} (hj:j<(ts i).size):txt (joinB ts cnt) ((joinB ts i).size+j)=txt (ts i) j:=by
 induction cnt with
 | zero=>omega
 | succ n ih =>
  rw[joinB,txt_append]
  by_cases e:i=n
  ·subst e
   rw[if_neg (by omega),Nat.add_sub_cancel_left]
  ·have h1:=joinB_mono ts (show i+1≤n by omega)
   rw[joinB,ByteArray.size_append] at h1
   rw[if_pos (by omega)]
   exact ih (by omega)
theorem sl64m (b l:Nat) (w:World) (hl:l<64):(Instr.sliceAt 183 (.pointer (some ⟨b,9,none⟩)) (some (.int .i64 (l:Int))) none none).run Tryz.prog w=.ok (.slice (some ⟨b,9+l,none⟩) (64-l) (64-l)) w:=by
 rw[run_sliceAt_array_l (P:=Tryz.prog) w 183 ⟨b,9,none⟩ Tryz.underlying183 .i64 (l:Int) (by omega) (by rw[len64];omega),sizeB64,len64]
 simp only[Result.andThen_ok,slicedAt,Int.toNat_natCast,Nat.mul_one]
 rw[if_neg (by omega),Addr.add_lit]
theorem sl64e (b:Nat) (w:World):(Instr.sliceAt 183 (.pointer (some ⟨b,9,none⟩)) (some (.int .i64 64)) none none).run Tryz.prog w=.ok (.slice (some ⟨b,9,none⟩) 0 0) w:=by
 rw[run_sliceAt_array_l (P:=Tryz.prog) w 183 ⟨b,9,none⟩ Tryz.underlying183 .i64 64 (by omega) (by rw[len64];omega),sizeB64,len64]
 rfl
theorem hadd_run (b:Nat) (all:ByteArray) (h0:Nat→Int) (n0:Nat) (v:Value) (cnt:Nat) (ts:Nat→ByteArray) (w:World) (hTw:Tabs w) (hb2:3≤b) (hN:HashN w b all h0 n0) (h0w:∀ i,i<8→W32 (h0 i)) (hsz0:all.size≤1152921504606846976)
  (hv:∀ w',Touch (fun x=>x=b) w w'→Strs w' v cnt ts) (hcn:cnt<4611686018427387904) (hfit:n0+(joinB ts cnt).size≤all.size) (heq:∀ j,j<(joinB ts cnt).size→txt all (n0+j)=txt (joinB ts cnt) j) :
  Calls Tryz.prog 142 #[.pointer (some ⟨b,0,none⟩),v] w fun e w'=>e=.returned (.tuple #[])∧HashN w' b all h0 (n0+(joinB ts cnt).size)∧Touch (fun x=>x=b) w w':=by
 obtain ⟨a,c,rfl,hp⟩:=hv w (Touch.refl _ _)
 have HV:=Hid.mk hv
 clear hv hp
 have HTw:Hid (∀ u,Touch (fun x=>x=b) w u→Tabs u):=Hid.mk (fun u hu=>hTw.touch hu hb2)
 have HEQ:=Hid.mk heq
 clear heq hTw
 go_enter Tryz.func142,Tryz.ntmps142
 go_wp2_with fail
 go_loopg [9] cnt (fun gm iv v=>∃ i:Nat,Hid (gm+i=cnt)∧iv=.int .i64 (i:Int)∧HashN v b all h0 (n0+(joinB ts i).size)∧Touch (fun x=>x=b) w v)
 case atStart=>exact ⟨0,Hid.mk rfl,rfl,hN,Touch.refl _ _⟩
 case round =>
  clear hN
  obtain ⟨i,HI,rfl,hN,ht⟩:=hrel
  have hin:i≤cnt:=by have:=HI.out;omega
  by_cases hil:i<cnt
  ·obtain ⟨a',c',e,hp⟩:=HV.out wr ht
   simp only[Value.slice.injEq] at e
   obtain ⟨rfl,_,rfl⟩:=e
   obtain ⟨p,rfl,hc⟩:=hp (by omega)
   have hc1:=hc i hil
   clear hc hp
   obtain ⟨s,hs⟩:∃ s,ts i=s:=⟨_,rfl⟩
   obtain ⟨n,hn⟩:∃ n,n0+(joinB ts i).size=n:=⟨_,rfl⟩
   have hjs:(joinB ts (i+1)).size=(joinB ts i).size+s.size:=by rw[joinB,ByteArray.size_append,hs]
   have hjm:=joinB_mono ts (show i+1≤cnt from hil)
   have HF:Hid (n+s.size≤all.size):=Hid.mk (by omega)
   have HA:Hid (∀ j,j<s.size→txt all (n+j)=txt s j):=Hid.mk (fun j hj=>by
    have h1:=HEQ.out ((joinB ts i).size+j) (by omega)
    rw[← Nat.add_assoc,hn] at h1
    rw[h1,joinB_at ts hil (by rw[hs];exact hj),hs])
   have HNX:Hid (n+s.size=n0+(joinB ts (i+1)).size):=Hid.mk (by omega)
   rw[hn] at hN
   rw[hs] at hc1
   clear hjs hjm hn hs
   have hd:decide ((i:Int)<(cnt:Int))=true:=by simp;omega
   go_wp2_with fail
   generalize wr=wo at *
   generalize gk=gz at *
   clear hc1
   go_loopg [5] s.size (fun gm pv v=>∃ q:Nat,Hid (gm+q=s.size)∧pv=.string (s.extract q s.size)∧HashN v b all h0 (n+q)∧Touch (fun x=>x=b) w v)
   case atStart=>exact ⟨0,Hid.mk rfl,by simp,hN,ht⟩
   case round =>
    clear hN ht
    obtain ⟨q,HK,rfl,hN,ht⟩:=hrel
    have hks:q≤s.size:=by have:=HK.out;omega
    have hsz:=extract_size s q
    obtain ⟨t,ht0⟩:∃ t,s.extract q s.size=t:=⟨_,rfl⟩
    rw[ht0] at hsz
    rw[ht0]
    by_cases hkl:q<s.size
    ·have hpos:(0:Int)<(t.size:Int):=by omega
     obtain ⟨k,h,B,e1,e2,e3,gK⟩:=hN
     by_cases h64:h=64
     ·subst h64
      have gm:=gK.at'
      have hch:=gm.held
      have hkb:64*k+64<all.size:=by have:=HF.out;omega
      have gmc:=gm.congr (B':=fun j=>txt all (64*k+j)) gK.eq
      have hfd:((((64:Nat):Int))==64)=true:=rfl
      go_wp2_with fail
      refine (take_run b 64 _ _ _ false _ (HTw.out _ ht) hb2 gmc (stF_w h0w k (by omega)) (fun j _=>txt_b _ _) (by omega) (by omega) (Nat.le_refl _)).mono ?_
      rintro e v7 ⟨rfl,gm7,ht7⟩
      rw[stF_mid hkb] at gm7
      replace ht7:=ht.trans ht7
      clear ht gmc gm hch gK e2 e3 hfd
      obtain ⟨k',hk'⟩:∃ k',k+1=k':=⟨_,rfl⟩
      have HBS:Hid (Byts 64 (fun j=>txt all (64*k+j))):=Hid.mk (fun j _=>txt_b _ _)
      generalize (fun j=>txt all (64*k+j))=B' at *
      rw[hk',show (((64*k:Nat):Int)+((64:Nat):Int))=((64*k':Nat):Int) by omega] at gm7
      have e1':64*k' + 0=n+q:=by omega
      clear e1 hk' hkb
      clear B k
      obtain ⟨k,rfl⟩:∃ k,k=k':=⟨_,rfl⟩
      obtain ⟨B,rfl⟩:∃ B,B=B':=⟨_,rfl⟩
      obtain ⟨h,hh0⟩:∃ h:Nat,h=0:=⟨_,rfl⟩
      have gm:HashAt v7 b (stF all h0 k) ((64*k:Nat):Int) B (h:Int):=by rw[hh0];exact gm7
      have HH0:=Hid.mk hh0
      have hh64:h<64:=by omega
      have e1:64*k+h=n+q:=by omega
      have HE:Hid (∀ j,j<h→B j=txt all (64*k+j)):=Hid.mk (fun j hj=>by omega)
      clear gm7 e1' hh0
      have HT:Hid (∀ j,q+j<s.size→txt t j=txt all (64*k+(h+j))):=Hid.mk (fun j hj=>by rw[← ht0,txt_extract s q j hj,← HA.out (q+j) hj];congr 1;omega)
      obtain ⟨m,hm⟩:∃ m,m=min t.size (64-h):=⟨_,rfl⟩
      have hsl:=fun v=>sl64m b h v hh64
      have hcp2:=copy_hash (dC:=64-h) 3 t gm.drew hm
      have hch:=gm.held
      have hset:=gm.drew.setBk h m (txt t) (by omega)
      have HX:Hid (t.extract m t.size=s.extract (q+m) s.size):=Hid.mk (by
       have h1:(t.extract m t.size).size=s.size-(q+m):=by rw[extract_size];omega
       have h2:=extract_size s (q+m)
       rw[← mkS_txt (t.extract m t.size),← mkS_txt (s.extract (q+m) s.size),h1,h2]
       refine mkS_congr (fun j hj=>?_)
       rw[txt_extract t m j (by omega),txt_extract s (q+m) j (by omega),← ht0,txt_extract s q (m+j) (by omega),Nat.add_assoc])
      have HO:Hid (∀ j,j<h+m→over B h m (txt t) j=txt all (64*k+j)):=Hid.mk (fun j hj=>by
       unfold over
       split
       ·rw[HT.out (j-h) (by omega)]
        congr 1
        omega
       ·exact HE.out j (by omega))
      have HB:Hid (Byts 64 (over B h m (txt t))):=Hid.mk (fun i hi=>by
       unfold over
       split
       ·exact txt_b t _
       ·exact HBS.out i hi)
      have hmt:(m:Int)≤(t.size:Int):=by omega
      have hm1:1≤m∧q+m≤s.size∧h+m≤64:=by omega
      have hwr:=i64_wrap (n:=(h:Int)+(m:Int)) (by omega) (by omega)
      have HZ:=Hid.mk hsz
      have HM:=Hid.mk hm
      clear hsz hm HT ht0
      generalize gk=gz at *
      go_wp2_with fail
      go_region
      generalize over B h m (txt t)=B' at *
      generalize v7.drew.setCells b (9+h) (nums .u8 m (txt t))=v5 at *
      obtain ⟨gm5,o5⟩:=hset
      have ht5:Touch (fun x=>x=b) w v5:=(Touch.drew ht7).trans (touch_only o5)
      clear hcp2 hsl o5 gm hch ht7
      have hch:=gm5.held
      have hcf:=gm5.free 73
      have gm6:=gm5.setHeld ((h:Int)+(m:Int))
      have ht6:Touch (fun x=>x=b) w (v5.setCell ⟨b,73,none⟩ (.int .i64 ((h:Int)+(m:Int)))):=ht5.trans (touch_only only_set)
      go_wp2_with fail
      go_roundg (s.size-(q+m))
      case rel=>exact ⟨q+m,Hid.mk (by omega),congrArg Value.string HX.out,⟨k,h+m,B',by omega,by omega,by omega,⟨by rw[show ((h+m:Nat):Int)=(h:Int)+(m:Int) by omega];exact gm6,HB.out,HO.out⟩⟩,ht6⟩
      case measure=>have:=HK.out;omega
     ·have gm:=gK.at'
      have HE:=Hid.mk gK.eq
      have HBS:=Hid.mk gK.bs
      have hh64:h<64:=by omega
      have hfi:¬ ((h:Int)=64):=by omega
      have hfd:((h:Int)==64)=false:=by simpa using hfi
      have HT:Hid (∀ j,q+j<s.size→txt t j=txt all (64*k+(h+j))):=Hid.mk (fun j hj=>by rw[← ht0,txt_extract s q j hj,← HA.out (q+j) hj];congr 1;omega)
      have HE3:=Hid.mk e3
      clear gK e2 e3 h64
      obtain ⟨m,hm⟩:∃ m,m=min t.size (64-h):=⟨_,rfl⟩
      have hsl:=fun v=>sl64m b h v hh64
      have hcp2:=copy_hash (dC:=64-h) 3 t gm.drew hm
      have hch:=gm.held
      have hset:=gm.drew.setBk h m (txt t) (by omega)
      have HX:Hid (t.extract m t.size=s.extract (q+m) s.size):=Hid.mk (by
       have h1:(t.extract m t.size).size=s.size-(q+m):=by rw[extract_size];omega
       have h2:=extract_size s (q+m)
       rw[← mkS_txt (t.extract m t.size),← mkS_txt (s.extract (q+m) s.size),h1,h2]
       refine mkS_congr (fun j hj=>?_)
       rw[txt_extract t m j (by omega),txt_extract s (q+m) j (by omega),← ht0,txt_extract s q (m+j) (by omega),Nat.add_assoc])
      have HO:Hid (∀ j,j<h+m→over B h m (txt t) j=txt all (64*k+j)):=Hid.mk (fun j hj=>by
       unfold over
       split
       ·rw[HT.out (j-h) (by omega)]
        congr 1
        omega
       ·exact HE.out j (by omega))
      have HB:Hid (Byts 64 (over B h m (txt t))):=Hid.mk (fun i hi=>by
       unfold over
       split
       ·exact txt_b t _
       ·exact HBS.out i hi)
      have hmt:(m:Int)≤(t.size:Int):=by omega
      have hm1:1≤m∧q+m≤s.size∧h+m≤64:=by omega
      have hwr:=i64_wrap (n:=(h:Int)+(m:Int)) (by omega) (by omega)
      have HZ:=Hid.mk hsz
      have HM:=Hid.mk hm
      clear hsz hm HT ht0
      generalize gk=gz at *
      go_wp2_with fail
      go_region
      generalize over B h m (txt t)=B' at *
      generalize wr.drew.setCells b (9+h) (nums .u8 m (txt t))=v5 at *
      obtain ⟨gm5,o5⟩:=hset
      have ht5:Touch (fun x=>x=b) w v5:=(Touch.drew ht).trans (touch_only o5)
      clear hcp2 hsl o5 gm hch ht
      have hch:=gm5.held
      have hcf:=gm5.free 73
      have gm6:=gm5.setHeld ((h:Int)+(m:Int))
      have ht6:Touch (fun x=>x=b) w (v5.setCell ⟨b,73,none⟩ (.int .i64 ((h:Int)+(m:Int)))):=ht5.trans (touch_only only_set)
      go_wp2_with fail
      go_roundg (s.size-(q+m))
      case rel=>exact ⟨q+m,Hid.mk (by omega),congrArg Value.string HX.out,⟨k,h+m,B',by omega,by omega,by omega,⟨by rw[show ((h+m:Nat):Int)=(h:Int)+(m:Int) by omega];exact gm6,HB.out,HO.out⟩⟩,ht6⟩
      case measure=>have:=HK.out;omega
    ·have hk2:q=s.size:=by omega
     subst hk2
     have hz0:t.size=0:=by omega
     rw[HNX.out] at hN
     clear HNX HA HF
     go_wp2_with fail
     go_roundg (cnt-(i+1))
     case rel=>exact ⟨i+1,Hid.mk (by omega),by go_num,hN,ht⟩
     case measure=>have:=HI.out;omega
  ·have hi2:i=cnt:=by omega
   subst hi2
   go_wp2_with fail
   go_end0
   exact ⟨rfl,hN,ht⟩
theorem zeros_nums (n:Nat):List.replicate n (Value.int .u8 0)=nums .u8 n (fun _=>0):=by
 unfold nums
 simp[List.map_const']
theorem zeroB (w:World):(zeroValue 5).run Tryz.prog w=.ok (.int .u8 0) w:=by kernel_rfl
theorem clear_hash {w:World} {b h dC:Nat} {H B:Nat→Int} {t l:Int} (ty:TypeId) (gm:HashAt w b H t B l) (hh:h<64) :
  (Builtin.clear_ #[81] ty #[.slice (some ⟨b,9+h,none⟩) (64-h) dC]).run Tryz.prog w=.ok (.tuple #[]) (w.setCells b (9+h) (nums .u8 (64-h) (fun _=>0))):=by
 rw[← zeros_nums]
 exact Lib.run_clear_slice (P:=Tryz.prog) w 81 5 ty (.int .u8 0) Tryz.underlying81 zeroB rfl rfl b (9+h) (64-h) dC (by omega) (fun j hj=>by rw[gm.at _ (by omega)];rfl) (fun j _=>gm.free _)
theorem clear_none (b:Nat) (ty:TypeId) (w:World):(Builtin.clear_ #[81] ty #[.slice (some ⟨b,9,none⟩) 0 0]).run Tryz.prog w=.ok (.tuple #[]) w:=by
 simp[Builtin.clear_,run_underlying Tryz.underlying81]
theorem nbF_le (n:Nat):nbF n≤n/64+1:=by
 unfold nbF
 split<;>omega
theorem Touch.trans_new {b g:Nat} {u v w:World} (h:Touch (fun x=>x=b) u v) (k:Only g v w) (hg:u.heap.size≤g:=by omega):Touch (fun x=>x=b) u w :=
 ⟨k.os.trans h.os,k.tape.trans h.tape,k.output.trans h.output,by rw[k.size];exact h.size,fun i hi hn=>(k.block i (by omega)).trans (h.block i hi hn)⟩
theorem end_run (b:Nat) (all:ByteArray) (h0:Nat→Int) (w:World) (hTw:Tabs w) (hb2:3≤b) (hN:HashN w b all h0 all.size) (h0w:∀ i,i<8→W32 (h0 i)) (hsz0:all.size≤1152921504606846976) :
  Calls Tryz.prog 143 #[.pointer (some ⟨b,0,none⟩)] w fun e w'=>e=.returned (.agg (WA .u8 32 (outF (stF all h0 (nbF all.size)))))∧Touch (fun x=>x=b) w w':=by
 obtain ⟨k,h,B,e1,e2,e3,gK⟩:=hN
 have hW:=stF_w (all:=all) h0w (nbF all.size) (by have:=nbF_le all.size;omega)
 have HST:=Hid.mk (stF_end (h0:=h0) e1 e2 e3)
 have HBE:Hid (∀ j,j<64→h≤j→txt all (64*k+j)=0):=Hid.mk (fun j _ hj=>txt_beyond all _ (by omega))
 have HEQ:=Hid.mk gK.eq
 have h0k:=stF_w (all:=all) h0w k (by omega)
 have gm:=gK.at'.alloc (.cells (WA .u8 32 fun _=>0) 22)
 have hblt:=gK.at'.lt
 have g0:ArrAt (w.alloc (.cells (WA .u8 32 fun _=>0) 22)) w.heap.size .u8 22 32 (fun _=>0):=heap_alloc_new w _
 have ht:Touch (fun x=>x=b) w (w.alloc (.cells (WA .u8 32 fun _=>0) 22)):=below_touch' b ((Below.refl _ w).alloc (Nat.le_refl _) _)
 have HT:Hid (∀ u,Touch (fun x=>x=b) w u→Tabs u):=Hid.mk (fun u hu=>hTw.touch hu hb2)
 clear hTw gK e3
 generalize stF all h0 (nbF all.size)=Z at *
 generalize stF all h0 k=S at *
 go_enter Tryz.func143,Tryz.ntmps143
 go_wp2_with fail
 refine wp_gen (fun v=>HashAt v b S ((64*k:Nat):Int) B (h:Int)∧ArrAt v w.heap.size .u8 22 32 (fun _=>0)∧Touch (fun x=>x=b) w v) ⟨gm,g0,ht⟩ ?_
 clear gm g0 ht
 rintro v0 ⟨gm,g0,ht⟩
 have hch:=gm.held
 have HTL:Hid (∀ v1:World,HashAt v1 b S ((64*k:Nat):Int) (fun j=>txt all (64*k+j)) (h:Int)→ArrAt v1 w.heap.size .u8 22 32 (fun _=>0)→Touch (fun x=>x=b) w v1 →
   Calls Tryz.prog 172 #[.pointer (some ⟨b,0,none⟩),.bool true] v1 fun e w'=>e=.returned (.tuple #[])∧HashAt w' b Z (((64*k:Nat):Int)+(h:Int)) (fun j=>txt all (64*k+j)) 0∧ArrAt w' w.heap.size .u8 22 32 (fun _=>0)∧Touch (fun x=>x=b) w w'):=Hid.mk (fun v1 g1 g2 t1=>by
  refine (take_run b h S _ _ true v1 (HT.out v1 t1) hb2 g1 h0k (fun j _=>txt_b _ _) (by omega) (by omega) e2).mono ?_
  rintro e w2 ⟨rfl,g3,t3⟩
  rw[HST.out] at g3
  exact ⟨rfl,g3,g2.touch t3 (by omega),t1.trans t3⟩)
 by_cases h64:h=64
 ·subst h64
  have hsl:=fun v=>sl64e b v
  have hcl:=fun ty=>clear_none b ty v0.drew
  have gm1:=gm.congr (B':=fun j=>txt all (64*k+j)) HEQ.out
  clear gm
  go_region
  go_wp2_with fail
  refine (HTL.out _ (gm1.drew) (g0.drew) (ht.drew)).mono ?_
  rintro e v6 ⟨rfl,gm6,g06,ht6⟩
  have hst:=gm6.st
  go_wp2_with (refine wl_value rfl (exec_ldmid rfl isSt (by rfl) hst) ?_)
  refine (bytes_run Z v6 hW).mono ?_
  rintro e v7 ⟨rfl,hb7⟩
  replace g06:=g06.kept hb7
  replace ht6:=ht6.trans (below_touch' b hb7)
  clear hb7 gm6 hst
  go_wp2_with (refine st_arr isArr32 g06 (by rfl) (by rfl) ?_;intro v8 g8 o8;refine Hid.out ?_)
  refine Hid.mk ?_
  go_wp2_with fail
  exact bodyPost_ret (res_arr Tryz.results143 isArr32 g8 (by rfl)) rfl ⟨rfl,ht6.trans_new o8⟩
 ·have hh:h<64:=by omega
  have hsl:=fun v=>sl64m b h v hh
  have hcl:=fun ty=>clear_hash (dC:=64-h) ty gm.drew hh
  have hset:=gm.drew.setBk h (64-h) (fun _=>0) (by omega)
  obtain ⟨hs1,hs2⟩:=hset
  have gm1:=hs1.congr (B':=fun j=>txt all (64*k+j)) (fun j hj=>by
   unfold over
   by_cases e:h≤j∧j<h+(64-h)
   ·rw[if_pos e,HBE.out j hj e.1]
   ·rw[if_neg e];exact HEQ.out j (by omega))
  have g01:=g0.drew.only hs2 (by omega)
  have ht1:=(ht.drew).trans (touch_only hs2)
  clear gm hs1 hs2
  go_region
  generalize v0.drew.setCells b (9+h) (nums .u8 (64-h) (fun _=>0))=v5 at *
  go_wp2_with fail
  refine (HTL.out _ (gm1) (g01) (ht1)).mono ?_
  rintro e v6 ⟨rfl,gm6,g06,ht6⟩
  have hst:=gm6.st
  go_wp2_with (refine wl_value rfl (exec_ldmid rfl isSt (by rfl) hst) ?_)
  refine (bytes_run Z v6 hW).mono ?_
  rintro e v7 ⟨rfl,hb7⟩
  replace g06:=g06.kept hb7
  replace ht6:=ht6.trans (below_touch' b hb7)
  clear hb7 gm6 hst
  go_wp2_with (refine st_arr isArr32 g06 (by rfl) (by rfl) ?_;intro v8 g8 o8;refine Hid.out ?_)
  refine Hid.mk ?_
  go_wp2_with fail
  exact bodyPost_ret (res_arr Tryz.results143 isArr32 g8 (by rfl)) rfl ⟨rfl,ht6.trans_new o8⟩
theorem run_buildH (s:Nat→Int) (w:World):(Instr.build 197 #[(0,.agg (WA .u32 8 s))]).run Tryz.prog w=.ok (.agg (hshC s 0 (fun _=>0) 0)) w:=by kernel_rfl
theorem exec_buildH {a:Act} {o:Oper} {w:World} {x:Operand} (ho:o.op=.build 197 #[(0,x)]) {s:Nat→Int} (hx:a.eval x=.agg (WA .u32 8 s)):(execOp a.eval o).run Tryz.prog w=.ok (.value (.agg (hshC s 0 (fun _=>0) 0))) w:=by
 have h:=run_buildH s w
 unfold execOp
 simp only[ho,List.map_toArray,List.map_cons,List.map_nil,hx,Sem.run_bind,h,Result.andThen_ok,Sem.run_pure]
theorem wl_boxH {ops:Array Oper} {rest:List Oper} {d:Option Tmp} {x:Operand} {t:TypeId} {ps:String} {af:Array Edge} {a:Act} {w:World} {Q:Exit→Act→World→Prop} {cs:Array Value} (hx:a.eval x=.agg cs)
  (h:∀ w',w'.heap[w.heap.size]?=some (.cells cs 197 (0,0))→Below w.heap.size w w'→wpList Tryz.prog ops Q rest (a.put d (.pointer (some ⟨w.heap.size,0,none⟩))) w') :
  wpList Tryz.prog ops Q ({ dst:=d,op:=.box 197 x,type:=t,pos:=ps,after:=af,guard:=none }::rest) a w:=by
 refine wl_act rfl ?_
 unfold Oper.wp execOp
 simp only[hx]
 simp[go_sem]
 exact h _ (heap_alloc_new w _) ((Below.refl _ _).alloc (Nat.le_refl _) _)
theorem sl64w (b:Nat) (w:World):(Instr.sliceAt 183 (.pointer (some ⟨b,9,none⟩)) none none none).run Tryz.prog w=.ok (.slice (some ⟨b,9,none⟩) 64 64) w:=by simp[go_sem]
theorem begun_run (size:Nat) (key all:ByteArray) (w:World) (hTw:Tabs w) (hs:size≤64) (hk:key.size≤64) (hall:key.size≠0→∀ j,j<64→txt all j=txt key j) :
  Calls Tryz.prog 141 #[.int .i64 (size:Int),.string key] w fun e w'=>∃ b,w.heap.size≤b∧e=.returned (.pointer (some ⟨b,0,none⟩))∧HashN w' b all (h0F size key.size) (if key.size=0 then 0 else 64)∧Below w.heap.size w w':=by
 have hF:=fun w hT=>firstState_run size key.size w hT hs hk
 generalize h0F size key.size=Z at *
 by_cases h0:key.size=0
 ·have hke:key=⟨#[]⟩:=by
   have:key=ByteArray.empty:=by simpa using h0
   rw[this];rfl
  have HK:=Hid.mk hke
  rw[if_pos h0]
  clear h0 hall hke
  go_enter Tryz.func141,Tryz.ntmps141
  go_wp2_with fail
  refine (hF _ hTw).mono ?_
  rintro e v1 ⟨rfl,hb1⟩
  go_wp2_with (first|(refine wl_value rfl (exec_buildH rfl (by rfl)) ?_)|(refine wl_boxH (by rfl) ?_;intro v2 gm hb2;refine Hid.out ?_))
  have gH:HashAt v2 v1.heap.size Z 0 (fun _=>0) 0:=gm
  have hB:=hb1.trans (hb2.mono hb1.size)
  have hz:=hb1.size
  clear gm hb2 hb1
  rw[HK.out]
  refine Hid.mk ?_
  go_wp2_with fail
  go_ret
  exact ⟨v1.heap.size,hz,rfl,⟨0,0,fun _=>0,rfl,by omega,fun _=>rfl,⟨gH,fun _ _=>by show 0≤(0:Int)∧(0:Int)<256;omega,fun j hj=>by omega⟩⟩,hB⟩
 ·have hne:key≠⟨#[]⟩:=fun e=>h0 (by rw[e];rfl)
  rw[if_neg h0]
  have HA:=Hid.mk (hall h0)
  clear h0 hall
  go_enter Tryz.func141,Tryz.ntmps141
  go_wp2_with fail
  refine (hF _ hTw).mono ?_
  rintro e v1 ⟨rfl,hb1⟩
  go_wp2_with (first|(refine wl_value rfl (exec_buildH rfl (by rfl)) ?_)|(refine wl_boxH (by rfl) ?_;intro v2 gm hb2;refine Hid.out ?_))
  have gH:HashAt v2 v1.heap.size Z 0 (fun _=>0) 0:=gm
  have hB:=hb1.trans (hb2.mono hb1.size)
  have hz:=hb1.size
  clear gm hb2 hb1
  generalize v1.heap.size=b at *
  have hsl:=sl64w b
  have hcp:=copy_hash (h:=0) (m:=key.size) (dC:=64) 3 key gH (by omega)
  simp only[Nat.add_zero,Nat.sub_zero] at hcp
  obtain ⟨g3,o3⟩:=gH.setBk 0 key.size (txt key) (by omega)
  simp only[Nat.add_zero] at g3 o3
  replace g3:=g3.congr (B':=fun j=>txt all j) (fun j hj=>by
   rw[HA.out j hj]
   unfold over
   by_cases e:0≤j∧j<0+key.size
   ·rw[if_pos e,Nat.sub_zero]
   ·rw[if_neg e,txt_beyond key j (by omega)])
  have hch:=g3.held
  have hcf:=g3.free 73
  have g4:=g3.setHeld 64
  replace hB:=(hB.trans (o3.below hz)).trans ((only_set (w:=v2.setCells b 9 (nums .u8 key.size (txt key))) (g:=b) (i:=73) (v:=.int .i64 64)).below hz)
  clear o3 gH
  have hned:decide (key=⟨#[]⟩)=false:=decide_eq_false hne
  refine Hid.mk ?_
  go_wp2_with (refine wl_value rfl (exec_neqST rfl (by rfl) (by rfl) hne) ?_)
  generalize v2.setCells b 9 (nums .u8 key.size (txt key))=v3 at *
  go_wp2_with fail
  go_ret
  exact ⟨b,hz,rfl,⟨0,64,fun j=>txt all j,rfl,by omega,fun _=>rfl,⟨g4,fun j _=>txt_b _ _,fun j _=>by rw[Nat.mul_zero,Nat.zero_add]⟩⟩,hB⟩
theorem hSum_run (v:Value) (cnt:Nat) (ts:Nat→ByteArray) (w:World) (hTw:Tabs w) (hv:Strs w v cnt ts) (hcn:cnt<4611686018427387904) (hsz:(joinB ts cnt).size≤1152921504606846976) :
  Calls Tryz.prog 107 #[v] w fun e w'=>e=.returned (.agg (WA .u8 32 (sumF (joinB ts cnt))))∧Below w.heap.size w w':=by
 have g0:ArrAt (w.alloc (.cells (WA .u8 32 fun _=>0) 22)) w.heap.size .u8 22 32 (fun _=>0):=heap_alloc_new w _
 have hB:Below w.heap.size w (w.alloc (.cells (WA .u8 32 fun _=>0) 22)):=(Below.refl _ w).alloc (Nat.le_refl _) _
 have hw0:=h0F_w (size:=32) (kl:=0) (by omega) (by omega)
 have h2:=hTw.two
 have hbg:=fun w hT=>begun_run 32 ⟨#[]⟩ (joinB ts cnt) w hT (by omega) (by show (0:Nat)≤64;omega) (fun h=>absurd rfl h)
 rw[if_pos (show (⟨#[]⟩:ByteArray).size=0 from rfl)] at hbg
 have HAL:Hid (∀ o,Tabs (w.alloc o)):=Hid.mk (fun o=>hTw.alloc o)
 go_enter Tryz.func107,Tryz.ntmps107
 go_wp2_with fail
 refine (hbg _ (HAL.out _)).mono ?_
 rintro e v1 ⟨b,hb,rfl,hN,hb1⟩
 have hz:w.heap.size+1≤b:=by simpa using hb
 have hT1:=(HAL.out _).kept hb1
 replace g0:=g0.kept hb1
 replace hB:=hB.trans (hb1.mono hB.size)
 have hv1:∀ w',Touch (fun x=>x=b) v1 w'→Strs w' v cnt ts:=fun w' ht=>hv.kept (fun k hk=>(ht.block k (by have:=hB.size;omega) (by omega)).trans (hB.block k hk))
 clear hb1 hb hbg
 go_wp2_with fail
 refine (hadd_run b (joinB ts cnt) _ 0 v cnt ts v1 hT1 (by omega) hN hw0 hsz hv1 hcn (by omega) (fun j _=>by rw[Nat.zero_add])).mono ?_
 rintro e v2 ⟨rfl,hN2,ht2⟩
 rw[Nat.zero_add] at hN2
 have hT2:=hT1.touch ht2 (by omega)
 replace g0:=g0.touch ht2 (by omega)
 replace hB:=belowT hB ht2 (by omega) (Nat.le_refl _)
 clear ht2 hN hv1 hT1
 go_wp2_with fail
 refine (end_run b (joinB ts cnt) _ v2 hT2 (by omega) hN2 hw0 hsz).mono ?_
 rintro e v3 ⟨rfl,ht3⟩
 replace g0:=g0.touch ht3 (by omega)
 replace hB:=belowT hB ht3 (by omega) (Nat.le_refl _)
 clear ht3 hN2 hT2
 go_wp2_with (refine st_arr isArr32 g0 (by rfl) (by rfl) ?_;intro v4 g4 o4;refine Hid.out ?_)
 refine Hid.mk ?_
 go_wp2_with fail
 exact bodyPost_ret (res_arr Tryz.results107 isArr32 g4 (by rfl)) rfl ⟨rfl,hB.trans (o4.below (Nat.le_refl _))⟩
def kyN (key:ByteArray):Nat:=if key.size=0 then 0 else 64
theorem allT_sz (key text:ByteArray) (hk:key.size≤64):(allT key text).size=kyN key+text.size:=by
 unfold allT kyN
 by_cases h:key.size=0
 ·rw[if_pos h,if_pos h];omega
 ·rw[if_neg h,if_neg h,ByteArray.size_append,ByteArray.size_append,mkS_size];omega
theorem allT_lo (key text:ByteArray) (hk:key.size≤64) (h0:key.size≠0) (j:Nat) (hj:j<64):txt (allT key text) j=txt key j:=by
 unfold allT
 rw[if_neg h0,txt_append,ByteArray.size_append,mkS_size,if_pos (by omega),txt_append]
 by_cases h:j<key.size
 ·rw[if_pos h]
 ·rw[if_neg h,txt_zeros,txt_beyond key j (by omega)]
theorem allT_hi (key text:ByteArray) (hk:key.size≤64) (j:Nat):txt (allT key text) (kyN key+j)=txt text j:=by
 unfold allT kyN
 by_cases h:key.size=0
 ·rw[if_pos h,if_pos h,Nat.zero_add]
 ·rw[if_neg h,if_neg h,txt_append,ByteArray.size_append,mkS_size,if_neg (by omega)]
  congr 1
  omega
theorem sl32h (b n:Nat) (w:World) (hn:n≤32):(Instr.sliceAt 22 (.pointer (some ⟨b,0,none⟩)) none (some (.int .i64 (n:Int))) none).run Tryz.prog w=.ok (.slice (some ⟨b,0,none⟩) n 32) w:=by
 have h2:(n:Int)≤32:=by omega
 simp[go_sem,h2]
theorem Keyed_run (size:Int) (key:ByteArray) (v:Value) (cnt:Nat) (ts:Nat→ByteArray) (w:World) (hTw:Tabs w) (hv:Strs w v cnt ts) (hcn:cnt<4611686018427387904) (hsz:(joinB ts cnt).size≤562949953421312) :
  Calls Tryz.prog 109 #[.int .i64 size,.string key,v] w fun e w'=>e=.returned (.tuple #[.string (keyedT size key (joinB ts cnt)).1,.int .i64 (keyedT size key (joinB ts cnt)).2])∧Below w.heap.size w w':=by
 by_cases h1:size<1
 ·have HR:Hid (keyedT size key (joinB ts cnt)=(⟨#[]⟩,1)):=Hid.mk (by unfold keyedT;rw[if_neg (fun h=>by omega)])
  generalize keyedT size key (joinB ts cnt)=K at *
  go_enter Tryz.func109,Tryz.ntmps109
  go_wp2_with fail
  exact bodyPost_ret (v:=.tuple #[.string ⟨#[]⟩,.int .i64 1]) (results_two Tryz.results109 (by rfl) (by rfl)) rfl ⟨by rw[HR.out],Below.refl _ _⟩
 ·by_cases h2:32<size
  ·have HR:Hid (keyedT size key (joinB ts cnt)=(⟨#[]⟩,1)):=Hid.mk (by unfold keyedT;rw[if_neg (fun h=>by omega)])
   generalize keyedT size key (joinB ts cnt)=K at *
   go_enter Tryz.func109,Tryz.ntmps109
   go_wp2_with fail
   exact bodyPost_ret (v:=.tuple #[.string ⟨#[]⟩,.int .i64 1]) (results_two Tryz.results109 (by rfl) (by rfl)) rfl ⟨by rw[HR.out],Below.refl _ _⟩
  ·by_cases h3:32<key.size
   ·have HR:Hid (keyedT size key (joinB ts cnt)=(⟨#[]⟩,1)):=Hid.mk (by unfold keyedT;rw[if_neg (fun h=>by omega)])
    have h3I:(32:Int)<(key.size:Int):=by omega
    generalize keyedT size key (joinB ts cnt)=K at *
    go_enter Tryz.func109,Tryz.ntmps109
    go_wp2_with fail
    exact bodyPost_ret (v:=.tuple #[.string ⟨#[]⟩,.int .i64 1]) (results_two Tryz.results109 (by rfl) (by rfl)) rfl ⟨by rw[HR.out],Below.refl _ _⟩
   ·have HR0:Hid (keyedT size key (joinB ts cnt)=(hashT size.toNat key (joinB ts cnt),0)):=Hid.mk (by unfold keyedT;rw[if_pos (by omega)])
    have h3I:¬ (32:Int)<(key.size:Int):=by omega
    obtain ⟨n,rfl⟩:∃ n:Nat,size=(n:Int):=⟨size.toNat,by omega⟩
    rw[Int.toNat_natCast] at HR0
    have hn32:n≤32:=by omega
    have hk64:key.size≤64:=by omega
    have hw0:=h0F_w (size:=n) (kl:=key.size) (by omega) hk64
    have hba:=hTw.two
    have hbg:=fun w hT=>begun_run n key (allT key (joinB ts cnt)) w hT (by omega) hk64 (fun h0 j hj=>allT_lo key _ hk64 h0 j hj)
    have has:=allT_sz key (joinB ts cnt) hk64
    have HHI:=Hid.mk (allT_hi key (joinB ts cnt) hk64)
    have hky:kyN key≤64:=by unfold kyN;split<;>omega
    have HOB:Hid (∀ i,0≤outF (stF (allT key (joinB ts cnt)) (h0F n key.size) (nbF (allT key (joinB ts cnt)).size)) i∧outF (stF (allT key (joinB ts cnt)) (h0F n key.size) (nbF (allT key (joinB ts cnt)).size)) i<256):=Hid.mk (outF_b _)
    have HR:Hid (keyedT (n:Int) key (joinB ts cnt)=(mkS n (outF (stF (allT key (joinB ts cnt)) (h0F n key.size) (nbF (allT key (joinB ts cnt)).size))),0)):=HR0
    generalize keyedT (n:Int) key (joinB ts cnt)=K at *
    clear HR0
    have HEN:=Hid.mk (fun b w hT h2 hN hs=>end_run b (allT key (joinB ts cnt)) (h0F n key.size) w hT h2 hN hw0 hs)
    generalize outF (stF (allT key (joinB ts cnt)) (h0F n key.size) (nbF (allT key (joinB ts cnt)).size))=Z at *
    change ∀ w,Tabs w→Calls Tryz.prog 141 #[.int .i64 (n:Int),.string key] w fun e w'=>∃ b,w.heap.size≤b∧e=.returned (.pointer (some ⟨b,0,none⟩))∧HashN w' b (allT key (joinB ts cnt)) (h0F n key.size) (kyN key)∧Below w.heap.size w w' at hbg
    go_enter Tryz.func109,Tryz.ntmps109
    go_wp2_with fail
    refine (hbg _ hTw).mono ?_
    rintro e v1 ⟨b,hb,rfl,hN,hb1⟩
    have hT1:=hTw.kept hb1
    have hv1:∀ w',Touch (fun x=>x=b) v1 w'→Strs w' v cnt ts:=fun w' ht=>hv.kept (fun k hk=>(ht.block k (by have:=hb1.size;omega) (by omega)).trans (hb1.block k hk))
    have hB:=hb1
    clear hb1 hbg
    go_wp2_with fail
    refine (hadd_run b (allT key (joinB ts cnt)) _ (kyN key) v cnt ts v1 hT1 (by omega) hN hw0 (by omega) hv1 hcn (by omega) (fun j _=>HHI.out j)).mono ?_
    rintro e v2 ⟨rfl,hN2,ht2⟩
    rw[← has] at hN2
    have hT2:=hT1.touch ht2 (by omega)
    replace hB:=belowT hB ht2 hb (Nat.le_refl _)
    clear ht2 hN hv1 hT1
    go_wp2_with fail
    refine (HEN.out b v2 hT2 (by omega) hN2 (by omega)).mono ?_
    rintro e v3 ⟨rfl,ht3⟩
    replace hB:=belowT hB ht3 hb (Nat.le_refl _)
    clear ht3 hN2 hT2
    have gn:=fun o (ho:o=Obj.cells (WA .u8 32 fun _=>0) 22 (0,0))=>(by rw[ho];exact heap_alloc_new v3 _:ArrAt (v3.alloc o) v3.heap.size .u8 22 32 (fun _=>0))
    have HBS:=Hid.mk hB.size
    go_wp2_with (refine st_arr isArr32 (gn _ rfl) (by rfl) (by rfl) ?_;intro v4 g4 o4;refine Hid.out ?_)
    replace hB:=(hB.alloc HBS.out _).trans (o4.below HBS.out)
    clear o4 gn HBS
    generalize v3.heap.size=bs at *
    have hsl:=sl32h bs n v4 hn32
    have hcv:=str_back n bs 32 v4 n Z (g4.row.mono hn32 (fun _ _=>rfl)) (fun j _=>HOB.out j) rfl
    refine Hid.mk ?_
    go_wp2_with fail
    exact bodyPost_ret (v:=.tuple #[.string (mkS n Z),.int .i64 0]) (results_two Tryz.results109 (by rfl) (by rfl)) rfl ⟨by rw[HR.out],hB⟩
theorem enterBehindB (args:Array Value) (w:World):(callFunc 206 args).run Tryz.prog w=.ok (.enter 206 args) w:=by kernel_rfl
theorem sl64z (b:Nat) (w:World):(Instr.sliceAt 183 (.pointer (some ⟨b,0,none⟩)) none none none).run Tryz.prog w=.ok (.slice (some ⟨b,0,none⟩) 64 64) w:=by simp[go_sem]
theorem strsC {w:World} {b:Nat} {s:ByteArray} (h:ContOK (fun ob=>ob=.cells #[.string s] 9 (0,0)) w b):Strs w (.slice (some ⟨b,0,none⟩) 1 1) 1 (one1 s):=by
 obtain ⟨ob,hg,rfl⟩:=h
 exact strs1 hg
theorem sumF_b (t:ByteArray) (j:Nat):0≤sumF t j∧sumF t j<256:=outF_b _ j
theorem blockOf_run (key:ByteArray) (w:World) (hTw:Tabs w) (hk:key.size≤1152921504606846976) :
  Calls Tryz.prog 205 #[.string key] w fun e w'=>e=.returned (.agg (WA .u8 64 (txt (keyM key))))∧Below w.heap.size w w':=by
 have g0:ArrAt ((w.alloc (.cells (WA .u8 64 fun _=>0) 183)).alloc (.cells (WA .u8 64 fun _=>0) 183)) w.heap.size .u8 183 64 (fun _=>0):=heap_alloc2_old w _ _
 have g1:ArrAt ((w.alloc (.cells (WA .u8 64 fun _=>0) 183)).alloc (.cells (WA .u8 64 fun _=>0) 183)) (w.heap.size+1) .u8 183 64 (fun _=>0):=heap_alloc2_new w _ _
 have hB:Below w.heap.size w ((w.alloc (.cells (WA .u8 64 fun _=>0) 183)).alloc (.cells (WA .u8 64 fun _=>0) 183)):=((Below.refl _ w).alloc (by simp) _).alloc (by simp) _
 have h2:=hTw.two
 by_cases h64:64<key.size
 ·have hI:(64:Int)<(key.size:Int):=by omega
  have HK:Hid (keyM key=mkS 32 (sumF key)):=Hid.mk (by unfold keyM;rw[if_pos h64])
  have HTB:Hid (∀ u,Below w.heap.size w u→Tabs u):=Hid.mk (fun u hu=>hTw.below hu h2)
  go_enter Tryz.func205,Tryz.ntmps205
  go_wp2_with (refine wl_bs1 (by rfl) ?_;intro v1 s1 hb1 hz1;refine Hid.out ?_)
  replace g0:=g0.kept hb1
  replace g1:=g1.kept hb1
  replace hB:=hB.trans (hb1.mono hB.size)
  clear hb1 hz1
  replace s1:Strs v1 (.slice (some ⟨w.heap.size+1+1,0,none⟩) 1 1) 1 (one1 key):=by simpa using s1
  refine Hid.mk ?_
  go_wp2_with fail
  refine (hSum_run _ 1 (one1 key) v1 (HTB.out _ hB) s1 (by omega) (by rw[join1];exact hk)).mono ?_
  rintro e v2 ⟨rfl,hb2⟩
  rw[join1]
  replace g0:=g0.kept hb2
  replace g1:=g1.kept hb2
  replace hB:=hB.trans (hb2.mono hB.size)
  clear hb2 s1
  have gn:=fun o (ho:o=Obj.cells (WA .u8 32 fun _=>0) 22 (0,0))=>(by rw[ho];exact heap_alloc_new v2 _:ArrAt (v2.alloc o) v2.heap.size .u8 22 32 (fun _=>0))
  have HBS:=Hid.mk hB.size
  have hz:=g1.lt
  go_wp2_with (refine st_arr isArr32 (gn _ rfl) (by rfl) (by rfl) ?_;intro v4 gs o4;refine Hid.out ?_)
  replace hB:=(hB.alloc HBS.out _).trans (o4.below HBS.out)
  replace g0:=(g0.alloc _).only o4 (by omega)
  replace g1:=(g1.alloc _).only o4 (by omega)
  clear o4 gn HBS
  generalize v2.heap.size=bs at *
  refine Hid.mk ?_
  go_wp2_with fail
  refine wp_gen (fun v=>ArrAt v (w.heap.size+1) .u8 183 64 (fun _=>0)∧ArrAt v w.heap.size .u8 183 64 (fun _=>0)∧ArrAt v bs .u8 22 32 (sumF key)∧Below w.heap.size w v) ⟨g1,g0,gs,hB⟩ ?_
  clear g1 g0 gs hB
  rintro v0 ⟨g1,g0,gs,hB⟩
  refine wp_region3 (Below w.heap.size w) v0.heap.size
   [((w.heap.size+1),once (WA .u8 64 (fun _=>0)) 183 2 (WA .u8 64 (over (fun _=>0) 0 32 (sumF key)))),(w.heap.size,fixd (WA .u8 64 (fun _=>0)) 183),(bs,fixd (WA .u8 32 (sumF key)) 22)]
   [kv (.slice (some ⟨(w.heap.size+1),0,none⟩) 64 64),kv (.slice (some ⟨bs,0,none⟩) 32 32),.val fun _=>True]
   [.none,.none,.base 0 1]
   [some 11,some 12,some 13]
   [(3,.pointer (some ⟨(w.heap.size+1),0,none⟩)),(4,.pointer (some ⟨bs,0,none⟩))]
   [[],[],[.slot 0,.slot 1,.base 0 0,.base 2 0]]
   [.base 0 1,.base 1 0] [11,12,13]
   rfl (by kernel_rfl) ⟨rfl,rfl,trivial⟩ (Below.drew hB) (Nat.le_refl _) ⟨⟨g1.lt,obIn g1⟩,⟨g0.lt,obIn g0⟩,⟨gs.lt,obIn gs⟩,trivial⟩ ⟨⟨(show ((w.heap.size+1):Nat)≠w.heap.size from by omega),(show ((w.heap.size+1):Nat)≠bs from by omega),trivial⟩,⟨trivial,trivial⟩,trivial,trivial⟩ (below_G hB.size ⟨by omega,by omega,by omega,trivial⟩)
   ⟨
    (fun _ _ ww _ _ _ fr _=>sV (exec_sl (v:=.pointer (some ⟨(w.heap.size+1),0,none⟩)) rfl fr.1 (sl64z (w.heap.size+1) ww))),
    (fun _ _ ww _ _ _ fr _=>sV (exec_sl (v:=.pointer (some ⟨bs,0,none⟩)) rfl fr.2.1 (sl32w bs ww))),
    (fun _ _ _ _ _ _ _ kn=>.inl ⟨trivial,fun K hK=>act_copy rfl kn.1 kn.2.1 (obAt kn.2.2.1) (m:=32) rfl (by omega) (r:=sumF key) (fun q hq=>by rw[Nat.zero_add];exact ArrAt.cell (obAt kn.2.2.2.1) q (by omega)) (fun w2 hg ho=>hK _ _ ⟨⟨touch_only ho,obIn hg⟩,trivial⟩)⟩),
    trivial⟩ ?_
  intro vs own v6 hB6 hs6 kn inj
  clear inj hs6 g1 g0 gs hB
  have g1:ArrAt v6 (w.heap.size+1) .u8 183 64 (over (fun _=>0) 0 32 (sumF key)):=obAt kn.1
  have g0:ArrAt v6 w.heap.size .u8 183 64 (fun _=>0):=obAt kn.2.1
  clear kn
  simp only[putAll,Act.put,List.setIfInBounds_toArray,List.set_cons_zero,List.set_cons_succ]
  replace g1:=g1.congr (s':=txt (mkS 32 (sumF key))) (fun j hj=>by
   unfold over
   by_cases e:0≤j∧j<0+32
   ·rw[if_pos e,Nat.sub_zero,txt_mkS (sumF_b key j) (by omega)]
   ·rw[if_neg e,txt_beyond _ j (by rw[mkS_size];omega)])
  rw[← HK.out] at g1
  go_wp2_with (first|(refine ld_arr isB64 g1 (by rfl) ?_)|(refine st_arr isB64 g0 (by rfl) (by rfl) ?_;intro v7 g7 o7;refine Hid.out ?_))
  refine Hid.mk ?_
  go_wp2_with fail
  exact bodyPost_ret (res_arr Tryz.results205 isB64 g7 (by rfl)) rfl ⟨rfl,hB6.trans (o7.below (Nat.le_refl _))⟩
 ·have hI:¬ (64:Int)<(key.size:Int):=by omega
  have HK:Hid (keyM key=key):=Hid.mk (by unfold keyM;rw[if_neg h64])
  have hsl:=sl64z (w.heap.size+1)
  go_enter Tryz.func205,Tryz.ntmps205
  have HB8:Hid (∀ j,j<key.size→0≤txt key j∧txt key j<256):=Hid.mk (fun j _=>txt_b key j)
  have HKK:=Hid.mk (mkS_txt key)
  go_wp2_with (refine wl_copyS (m:=key.size) (r:=txt key) (by rfl) (by show Value.string key=_;rw[HKK.out]) g1 HB8.out (by omega) (by omega) ?_;intro v4 g4 o4;refine Hid.out ?_)
  replace g0:=g0.only o4 (by omega)
  replace hB:=hB.trans (o4.below (by omega))
  replace g4:=g4.congr (s':=txt (keyM key)) (fun j hj=>by
   rw[HK.out]
   unfold over
   by_cases e:0≤j∧j<0+key.size
   ·rw[if_pos e,Nat.sub_zero]
   ·rw[if_neg e,txt_beyond _ j (by omega)])
  clear o4 g1
  refine Hid.mk ?_
  go_wp2_with (first|(refine ld_arr isB64 g4 (by rfl) ?_)|(refine st_arr isB64 g0 (by rfl) (by rfl) ?_;intro v7 g7 o7;refine Hid.out ?_))
  refine Hid.mk ?_
  go_wp2_with fail
  exact bodyPost_ret (res_arr Tryz.results205 isB64 g7 (by rfl)) rfl ⟨rfl,hB.trans (o7.below (Nat.le_refl _))⟩
theorem sumBehind_run (kb:Nat→Int) (c:Int) (v:Value) (cnt:Nat) (ts:Nat→ByteArray) (w:World) (hTw:Tabs w) (hkb:Byts 64 kb) (hc:0≤c∧c<256) (hv:Strs w v cnt ts) (hcn:cnt<4611686018427387904) (hsz:(joinB ts cnt).size≤562949953421312) :
  Calls Tryz.prog 206 #[.agg (WA .u8 64 kb),.int .u8 c,v] w fun e w'=>e=.returned (.agg (WA .u8 32 (sumF (mkS 64 (fun i=>xorw (kb i) c)++joinB ts cnt))))∧Below w.heap.size w w':=by
 have g0:ArrAt ((w.alloc (.cells (WA .u8 64 kb) 183)).alloc (.cells (WA .u8 32 fun _=>0) 22)) w.heap.size .u8 183 64 kb:=heap_alloc2_old w _ _
 have g1:ArrAt ((w.alloc (.cells (WA .u8 64 kb) 183)).alloc (.cells (WA .u8 32 fun _=>0) 22)) (w.heap.size+1) .u8 22 32 (fun _=>0):=heap_alloc2_new w _ _
 have hB:Below w.heap.size w ((w.alloc (.cells (WA .u8 64 kb) 183)).alloc (.cells (WA .u8 32 fun _=>0) 22)):=((Below.refl _ w).alloc (by simp) _).alloc (by simp) _
 have h2:=hTw.two
 have HTB:Hid (∀ u,Below w.heap.size w u→Tabs u):=Hid.mk (fun u hu=>hTw.below hu h2)
 have HVB:Hid (∀ u,Below w.heap.size w u→Strs u v cnt ts):=Hid.mk (fun u hu=>hv.below hu)
 have hw0:=h0F_w (size:=32) (kl:=0) (by omega) (by omega)
 have HX:Hid (∀ j,0≤(fun i=>xorw (kb i) c) j∧(fun i=>xorw (kb i) c) j<256∨¬ j<64):=Hid.mk (fun j=>by
  by_cases hj:j<64
  ·exact .inl (xorw_b (hkb j hj) hc)
  ·exact .inr hj)
 have HX8:Hid (∀ j,j<64→bits .xor .u8 (kb j) c=(fun i=>xorw (kb i) c) j):=Hid.mk (fun j hj=>u8_xor _ _ (hkb j hj).1 (hkb j hj).2 hc.1 hc.2)
 generalize (fun i=>xorw (kb i) c)=X at *
 clear hTw hv
 go_enter Tryz.func206,Tryz.ntmps206
 go_wp2_with fail
 go_loopg [9] 64 (fun gm iv v=>∃ j:Nat,Hid (gm+j=64)∧iv=.int .i64 (j:Int)∧ArrAt v w.heap.size .u8 183 64 (ovr X kb j)∧ArrAt v (w.heap.size+1) .u8 22 32 (fun _=>0)∧Below w.heap.size w v)
 case atStart=>exact ⟨0,Hid.mk rfl,rfl,by rw[ovr_zero];exact g0,g1,hB⟩
 case round =>
  clear g0 g1 hB
  obtain ⟨j,HJ,rfl,g0,g1,hB⟩:=hrel
  have hj64:j≤64:=by have:=HJ.out;omega
  by_cases hj:j<64
  ·have c0:=g0.cell j hj
   rw[ovr_at] at c0
   have f0:=g0.free j
   have e0:=HX8.out j hj
   have HG:=Hid.mk (g0.set j (X j) hj)
   rw[ovr_next] at HG
   go_wp2_with fail
   go_roundg (64-(j+1))
   case rel=>exact ⟨j+1,Hid.mk (by omega),by go_num,HG.out,g1.other _ (by omega),Below.setCell hB (by simp) _⟩
   case measure=>have:=HJ.out;omega
  ·have hj2:j=64:=by omega
   subst hj2
   clear hj hj64 HJ
   replace g0:=g0.congr (s':=X) ovr_full
   have hbg:=fun w hT=>begun_run 32 ⟨#[]⟩ (mkS 64 X++joinB ts cnt) w hT (by omega) (by show (0:Nat)≤64;omega) (fun h=>absurd rfl h)
   rw[if_pos (show (⟨#[]⟩:ByteArray).size=0 from rfl)] at hbg
   have has:(mkS 64 X++joinB ts cnt).size=64+(joinB ts cnt).size:=by rw[ByteArray.size_append,mkS_size]
   have HLO:Hid (∀ j,j<64→txt (mkS 64 X++joinB ts cnt) (0+j)=txt (mkS 64 X) j):=Hid.mk (fun j hj=>by rw[Nat.zero_add,txt_append,mkS_size,if_pos hj])
   have HHI:Hid (∀ j,txt (mkS 64 X++joinB ts cnt) (64+j)=txt (joinB ts cnt) j):=Hid.mk (fun j=>by rw[txt_append,mkS_size,if_neg (by omega),Nat.add_sub_cancel_left])
   have HEND:Hid (∀ b w,Tabs w→3≤b→HashN w b (mkS 64 X++joinB ts cnt) (h0F 32 0) (mkS 64 X++joinB ts cnt).size→Calls Tryz.prog 143 #[.pointer (some ⟨b,0,none⟩)] w fun e w'=>e=.returned (.agg (WA .u8 32 (sumF (mkS 64 X++joinB ts cnt))))∧Touch (fun x=>x=b) w w'):=Hid.mk (fun b w hT hb hN=>end_run b _ _ w hT hb hN hw0 (by omega))
   generalize hga:mkS 64 X++joinB ts cnt=all at *
   have HGA:=Hid.mk hga
   clear hga
   have HAS:=Hid.mk has
   clear has
   go_wp2_with fail
   refine (hbg _ (HTB.out _ hB)).mono ?_
   rintro e v1 ⟨b,hb,rfl,hN,hb1⟩
   have hlt:=g1.lt
   have hbw:w.heap.size+1<b:=by omega
   replace g0:=g0.kept hb1
   replace g1:=g1.kept hb1
   replace hB:=hB.trans (hb1.mono hB.size)
   clear hb1 hbg hb hlt
   have hcv:=str_back 64 w.heap.size 64 v1 64 X g0.row (fun j hj=>(HX.out j).resolve_right (fun h=>h hj)) rfl
   have hsl:=sl64z w.heap.size
   go_wp2_with (refine wl_bs1 (by rfl) ?_;intro v2 s2 hb2 hz2;refine Hid.out ?_)
   replace g1:=g1.kept hb2
   have hblt:=hN.lt
   replace hN:=hN.kept hb2
   replace hB:=hB.trans (hb2.mono hB.size)
   have hne:v1.heap.size≠b:=by omega
   have hv2:∀ w',Touch (fun x=>x=b) v2 w'→Strs w' (.slice (some ⟨v1.heap.size,0,none⟩) 1 1) 1 (one1 (mkS 64 X)):=fun w' ht=>s2.touch (fun p n' c e=>by
    simp only[Value.slice.injEq,Option.some.injEq] at e
    obtain ⟨rfl,_,_⟩:=e
    exact hne) ht
   clear hb2 hz2 g0 hcv hsl
   refine Hid.mk ?_
   go_wp2_with fail
   refine (hadd_run b all _ 0 _ 1 (one1 (mkS 64 X)) v2 (HTB.out _ hB) (by omega) hN hw0 (by have:=HAS.out;omega) hv2 (by omega) (by rw[join1,mkS_size];have:=HAS.out;omega) (fun j hj=>by rw[join1] at hj ⊢;rw[mkS_size] at hj;exact HLO.out j hj)).mono ?_
   rintro e v3 ⟨rfl,hN3,ht3⟩
   rw[join1,mkS_size,Nat.zero_add] at hN3
   replace g1:=g1.touch ht3 (by omega)
   replace hB:=belowT hB ht3 (by omega) (Nat.le_refl _)
   clear ht3 hN hv2 s2 hne hblt
   have hv3:∀ w',Touch (fun x=>x=b) v3 w'→Strs w' v cnt ts:=fun w' ht=>HVB.out w' (belowT hB ht (by omega) (Nat.le_refl _))
   go_wp2_with fail
   refine (hadd_run b all _ 64 v cnt ts v3 (HTB.out _ hB) (by omega) hN3 hw0 (by have:=HAS.out;omega) hv3 hcn (by have:=HAS.out;omega) (fun j _=>HHI.out j)).mono ?_
   rintro e v4 ⟨rfl,hN4,ht4⟩
   rw[← HAS.out] at hN4
   replace g1:=g1.touch ht4 (by omega)
   replace hB:=belowT hB ht4 (by omega) (Nat.le_refl _)
   clear ht4 hN3 hv3
   go_wp2_with fail
   refine (HEND.out b v4 (HTB.out _ hB) (by omega) hN4).mono ?_
   rintro e v5 ⟨rfl,ht5⟩
   replace g1:=g1.touch ht5 (by omega)
   replace hB:=belowT hB ht5 (by omega) (Nat.le_refl _)
   clear ht5 hN4
   go_wp2_with (refine st_arr isArr32 g1 (by rfl) (by rfl) ?_;intro v7 g7 o7;refine Hid.out ?_)
   refine Hid.mk ?_
   go_wp2_with fail
   exact bodyPost_ret (res_arr Tryz.results206 isArr32 g7 (by rfl)) rfl ⟨by rw[HGA.out],hB.trans (o7.below (by omega))⟩
theorem MAC_run (key:ByteArray) (v:Value) (cnt:Nat) (ts:Nat→ByteArray) (w:World) (hTw:Tabs w) (hk:key.size≤1152921504606846976) (hv:Strs w v cnt ts) (hcn:cnt<4611686018427387904) (hsz:(joinB ts cnt).size≤562949953421312) :
  Calls Tryz.prog 180 #[.string key,v] w fun e w'=>e=.returned (.agg (WA .u8 32 (macF key (joinB ts cnt))))∧Below w.heap.size w w':=by
 have g0:ArrAt (w.alloc (.cells (WA .u8 32 fun _=>0) 22)) w.heap.size .u8 22 32 (fun _=>0):=heap_alloc_new w _
 have hB:Below w.heap.size w (w.alloc (.cells (WA .u8 32 fun _=>0) 22)):=(Below.refl _ w).alloc (Nat.le_refl _) _
 have h2:=hTw.two
 have HT:Hid (∀ u,Below w.heap.size w u→Tabs u):=Hid.mk (fun u hu=>hTw.below hu h2)
 have HVB:Hid (∀ u,Below w.heap.size w u→Strs u v cnt ts):=Hid.mk (fun u hu=>hv.below hu)
 have HKB:Hid (Byts 64 (txt (keyM key))):=Hid.mk (fun j _=>txt_b _ _)
 have hS1:=fun u hT hv=>sumBehind_run (txt (keyM key)) 54 v cnt ts u hT (fun j _=>txt_b _ _) (by omega) hv hcn hsz
 have HXB:=Hid.mk (sumF_b (mkS 64 (padK (keyM key) 54)++joinB ts cnt))
 have HM:Hid (sumF (mkS 64 (padK (keyM key) 92)++mkS 32 (sumF (mkS 64 (padK (keyM key) 54)++joinB ts cnt)))=macF key (joinB ts cnt)):=Hid.mk rfl
 change ∀ u,Tabs u→Strs u v cnt ts→Calls Tryz.prog 206 #[.agg (WA .u8 64 (txt (keyM key))),.int .u8 54,v] u fun e w'=>e=.returned (.agg (WA .u8 32 (sumF (mkS 64 (padK (keyM key) 54)++joinB ts cnt))))∧Below u.heap.size u w' at hS1
 generalize sumF (mkS 64 (padK (keyM key) 54)++joinB ts cnt)=X at *
 have HSB:Hid (∀ sv u,Tabs u→Strs u sv 1 (one1 (mkS 32 X))→Calls Tryz.prog 206 #[.agg (WA .u8 64 (txt (keyM key))),.int .u8 92,sv] u fun e w'=>e=.returned (.agg (WA .u8 32 (macF key (joinB ts cnt))))∧Below u.heap.size u w'):=Hid.mk (fun sv u hT hs=>by
  have h:=sumBehind_run (txt (keyM key)) 92 sv 1 (one1 (mkS 32 X)) u hT (fun j _=>txt_b _ _) (by omega) hs (by omega) (by rw[join1,mkS_size];omega)
  rw[join1] at h
  rw[← HM.out]
  exact h)
 go_enter Tryz.func180,Tryz.ntmps180
 go_wp2_with fail
 refine (blockOf_run key _ (HT.out _ hB) hk).mono ?_
 rintro e v1 ⟨rfl,hb1⟩
 replace g0:=g0.kept hb1
 replace hB:=hB.trans (hb1.mono hB.size)
 clear hb1
 have gn:=fun o (ho:o=Obj.cells (WA .u8 64 fun _=>0) 183 (0,0))=>(by rw[ho];exact heap_alloc_new v1 _:ArrAt (v1.alloc o) v1.heap.size .u8 183 64 (fun _=>0))
 have HBS:=Hid.mk hB.size
 have hz:=g0.lt
 go_wp2_with (refine st_arr isB64 (gn _ rfl) (by rfl) (by rfl) ?_;intro v2 g5 o2;refine Hid.out ?_)
 replace hB:=(hB.alloc HBS.out _).trans (o2.below HBS.out)
 replace g0:=(g0.alloc _).only o2 (by omega)
 clear o2 gn HBS
 generalize v1.heap.size=b5 at *
 refine Hid.mk ?_
 go_wp2_with (refine ld_arr isB64 g5 (by rfl) ?_)
 refine (hS1 _ (HT.out _ hB) (HVB.out _ hB)).mono ?_
 rintro e v3 ⟨rfl,hb3⟩
 replace g0:=g0.kept hb3
 replace g5:=g5.kept hb3
 replace hB:=hB.trans (hb3.mono hB.size)
 clear hb3 hS1
 have gn:=fun o (ho:o=Obj.cells (WA .u8 32 fun _=>0) 22 (0,0))=>(by rw[ho];exact heap_alloc_new v3 _:ArrAt (v3.alloc o) v3.heap.size .u8 22 32 (fun _=>0))
 have HBS:=Hid.mk hB.size
 have hz5:=g5.lt
 go_wp2_with (refine st_arr isArr32 (gn _ rfl) (by rfl) (by rfl) ?_;intro v4 g6 o4;refine Hid.out ?_)
 replace hB:=(hB.alloc HBS.out _).trans (o4.below HBS.out)
 replace g0:=(g0.alloc _).only o4 (by omega)
 replace g5:=(g5.alloc _).only o4 (by omega)
 clear o4 gn HBS
 generalize v3.heap.size=b6 at *
 refine Hid.mk ?_
 go_wp2_with fail
 refine wp_gen (fun v=>ArrAt v w.heap.size .u8 22 32 (fun _=>0)∧ArrAt v b5 .u8 183 64 (txt (keyM key))∧ArrAt v b6 .u8 22 32 X∧Below w.heap.size w v) ⟨g0,g5,g6,hB⟩ ?_
 clear g0 g5 g6 hB
 rintro v0 ⟨g0,g5,g6,hB⟩
 refine wp_region3 (Below w.heap.size w) v0.heap.size
  [(w.heap.size,once (WA .u8 32 (fun _=>0)) 22 5 (WA .u8 32 (macF key (joinB ts cnt)))),(b5,fixd (WA .u8 64 (txt (keyM key))) 183),(b6,fixd (WA .u8 32 X) 22)]
  [kv (.agg (WA .u8 64 (txt (keyM key)))),kv (.slice (some ⟨b6,0,none⟩) 32 32),kv (.string (mkS 32 X)),.new (slTo 1) ⟨fun ob=>ob=.cells #[.string (mkS 32 X)] 9 (0,0),[]⟩,kv (.agg (WA .u8 32 (macF key (joinB ts cnt)))),.val fun _=>True]
  [.none,.none,.none,.none,.none,.base 0 1]
  [some 12,some 13,some 14,some 15,some 16,none]
  [(5,.pointer (some ⟨b5,0,none⟩)),(6,.pointer (some ⟨b6,0,none⟩)),(4,.pointer (some ⟨w.heap.size,0,none⟩))]
  [[.base 1 0],[],[.slot 1,.base 2 0],[.slot 2],[.slot 0,.slot 3,.cont 3 0],[.slot 4,.base 0 0]]
  [.base 0 1] [12,13,14,15,16]
  rfl (by kernel_rfl) ⟨rfl,rfl,rfl,trivial⟩ (Below.drew hB) (Nat.le_refl _) ⟨⟨g0.lt,obIn g0⟩,⟨g5.lt,obIn g5⟩,⟨g6.lt,obIn g6⟩,trivial⟩ ⟨⟨(show (w.heap.size:Nat)≠b5 from by omega),(show (w.heap.size:Nat)≠b6 from by omega),trivial⟩,⟨trivial,trivial⟩,trivial,trivial⟩ (below_G hB.size ⟨by omega,by omega,by omega,trivial⟩)
  ⟨
   (fun _ _ _ _ _ _ fr kn=>sV (look_arr rfl isB64 (obAt kn.1) fr.1)),
   (fun _ _ ww _ _ _ fr _=>sV (exec_sl (v:=.pointer (some ⟨b6,0,none⟩)) rfl fr.2.1 (sl32w b6 ww))),
   (fun _ _ ww _ _ _ _ kn=>sV (exec_conv rfl kn.1 (str_back 32 b6 32 ww 32 X (ArrAt.row (obAt kn.2.1)) (fun j _=>HXB.out j) rfl))),
   (fun _ _ _ _ _ _ _ kn=>.inl ⟨trivial,fun K hK=>act_bs1 rfl kn.1 (fun v hg hb=>hK _ _ ⟨touch_below hb,_,Nat.le_refl _,rfl,⟨_,hg,rfl⟩⟩)⟩),
   (fun _ _ ww _ hS _ _ kn=>.inl ⟨trivial,fun K hK=>stepc enterBehindB rfl (args3 kn.1 rfl kn.2.1.1) (HSB.out _ ww (HT.out ww hS) (strsC kn.2.2.1)) (fun w' hb=>hK _ _ ⟨touch_below hb,rfl⟩)⟩),
   (fun _ _ _ _ _ _ fr kn=>.inl ⟨trivial,fun K hK=>act_arr rfl isArr32 fr.2.2.1 kn.1 (obAt kn.2.1) (fun w2 hg ho=>hK _ _ ⟨⟨touch_only ho,obIn hg⟩,trivial⟩)⟩),
   trivial⟩ ?_
 intro vs own v7 hB7 hs7 kn inj
 clear inj hs7 g0 g5 g6 hB
 have g0:ArrAt v7 w.heap.size .u8 22 32 (macF key (joinB ts cnt)):=obAt kn.1
 clear kn
 simp only[putAll,Act.put,List.setIfInBounds_toArray,List.set_cons_zero,List.set_cons_succ]
 go_wp2_with fail
 exact bodyPost_ret (res_arr Tryz.results180 isArr32 g0 (by rfl)) rfl ⟨rfl,hB7⟩
theorem enterMACc (args:Array Value) (w:World):(callFunc 180 args).run Tryz.prog w=.ok (.enter 180 args) w:=by kernel_rfl
theorem strsC2 {w:World} {b:Nat} {s t:ByteArray} (h:ContOK (fun ob=>ob=.cells #[.string s,.string t] 9 (0,0)) w b):Strs w (.slice (some ⟨b,0,none⟩) 2 2) 2 (two2 s t):=by
 obtain ⟨ob,hg,rfl⟩:=h
 exact strs2 hg
theorem Chain_run (n:Nat) (key:Nat→Int) (input:ByteArray) (w:World) (hTw:Tabs w) (hk:Byts 32 key) (h1:1≤n) (h8:n≤8) (hi:input.size≤140737488355328) :
  Calls Tryz.prog 148 #[.int .i64 (n:Int),.agg (WA .u8 32 key),.string input] w fun e w'=>∃ v B,e=.returned (.tuple #[v,.int .i64 0])∧w.heap.size≤B∧w'.ownsRow B 22 32 v n (rowsL (chK (macF (mkS 32 key) input)) n)∧Below w.heap.size w w':=by
 have g0:ArrAt (w.alloc (.cells (WA .u8 32 key) 22)) w.heap.size .u8 22 32 key:=heap_alloc_new w _
 have hB:Below w.heap.size w (w.alloc (.cells (WA .u8 32 key) 22)):=(Below.refl _ w).alloc (Nat.le_refl _) _
 have h2:=hTw.two
 have HTW:Hid (∀ u,Below w.heap.size w u→Tabs u):=Hid.mk (fun u hu=>hTw.below hu h2)
 have hM:=fun sv u hT hs=>MAC_run (mkS 32 key) sv 1 (one1 input) u hT (by rw[mkS_size];omega) hs (by omega) (by rw[join1];omega)
 rw[join1] at hM
 have hcv:=str_back 32 w.heap.size 32 _ 32 key g0.row (fun j hj=>hk j hj) rfl
 have HZB:Hid (∀ j,j<32→0≤macF (mkS 32 key) input j∧macF (mkS 32 key) input j<256):=Hid.mk (fun j _=>macF_b _ _ j)
 generalize macF (mkS 32 key) input=zz at *
 go_enter Tryz.func148,Tryz.ntmps148
 go_wp2_with (refine wl_bs1 (by rfl) ?_;intro v1 s1 hb1 hz1;refine Hid.out ?_)
 replace hB:=hB.trans (hb1.mono hB.size)
 replace s1:Strs v1 (.slice (some ⟨w.heap.size+1,0,none⟩) 1 1) 1 (one1 input):=by simpa using s1
 clear hb1 hz1 g0 hcv
 refine Hid.mk ?_
 go_wp2_with fail
 refine (hM _ _ (HTW.out _ hB) s1).mono ?_
 rintro e v2 ⟨rfl,hb⟩
 replace hB:=hB.trans (hb.mono hB.size)
 clear hb hM s1
 have gn:=fun o (ho:o=Obj.cells (WA .u8 32 fun _=>0) 22 (0,0))=>(by rw[ho];exact heap_alloc_new v2 _:ArrAt (v2.alloc o) v2.heap.size .u8 22 32 (fun _=>0))
 have HBS:=Hid.mk hB.size
 go_wp2_with (refine st_arr isArr32 (gn _ rfl) (by rfl) (by rfl) ?_;intro v3 g8 o8;refine Hid.out ?_)
 replace hB:=(hB.alloc HBS.out _).trans (o8.below HBS.out)
 have hc8:w.heap.size≤v2.heap.size:=HBS.out
 clear o8 gn HBS
 generalize v2.heap.size=c8 at *
 refine Hid.mk ?_
 go_wp2_with fail
 go_loopg [9,10,25] n (fun gm ov lv iv v=>∃ i p:Nat,Hid (gm+i=n)∧Hid (p=i+1)∧iv=.int .i64 (i:Int)∧lv=.string (lstT zz i)∧ArrAt v c8 .u8 22 32 zz∧v.ownsRow (c8+1) 22 32 ov i (rowsL (chK zz) i)∧Below w.heap.size w v)
 case atStart=>exact ⟨0,1,Hid.mk rfl,Hid.mk rfl,rfl,rfl,g8,World.ownsRow_nil _ _ _ _,hB⟩
 case round =>
  clear g8 hB
  obtain ⟨i,p,HI,HP,rfl,rfl,g8,hO,hB⟩:=hrel
  have hin:i≤n:=by have:=HI.out;omega
  by_cases hil:i<n
  ·have hilI:(i:Int)<(n:Int):=by omega
   have HMC:Hid (∀ sv w,Tabs w→Strs w sv 2 (two2 (lstT zz i) (mkS 1 fun _=>(p:Int)%256))→Calls Tryz.prog 180 #[.string (mkS 32 zz),sv] w fun e w'=>e=.returned (.agg (WA .u8 32 (chK zz i)))∧Below w.heap.size w w'):=Hid.mk (fun sv w hT hs=>by
    have h:=MAC_run (mkS 32 zz) sv 2 _ w hT (by rw[mkS_size];omega) hs (by omega) (by have:=lstT_size zz i;rw[join2,ByteArray.size_append,mkS_size];omega)
    rw[join2,HP.out] at h
    exact h)
   go_wp2_with fail
   refine wp_gen (fun v=>ArrAt v c8 .u8 22 32 (zz)∧v.ownsRow (c8+1) 22 32 u9 i (rowsL (chK zz) i)∧Below w.heap.size w v) ⟨g8,hO,hB⟩ ?_
   clear g8 hO hB
   rintro v0 ⟨g8,hO,hB⟩
   have HG8:Hid (∀ u,Below v0.heap.size v0 u→ArrAt u c8 .u8 22 32 zz):=Hid.mk (fun u hu=>g8.kept hu)
   have HT:Hid (∀ u,Below v0.heap.size v0 u→Tabs u):=Hid.mk (fun u hu=>HTW.out u (hB.trans (hu.mono hB.size)))
   have HOB:Hid (∀ q,v0.heap.size≤q→some q≠u9.ownBlock):=Hid.mk (fun q hq e=>by have:=(hO.lt q e.symm).2;omega)
   refine wp_region3 (Below v0.heap.size v0) v0.heap.size
    ([]:List (Nat×Cont))
    [kv (.slice (some ⟨c8,0,none⟩) 32 32),kv (.string (mkS 32 zz)),kv (.string (lstT zz i)),kv (.int .i64 (i:Int)),kv (.int .i64 (p:Int)),kv (.int .u8 ((p:Int)%256)),ks 1 (WA .u8 1 fun _=>(p:Int)%256) 5,kv (.string (mkS 1 fun _=>(p:Int)%256)),.new (slTo 2) ⟨fun ob=>ob=.cells #[.string (lstT zz i),.string (mkS 1 fun _=>(p:Int)%256)] 9 (0,0),[]⟩,kv (.agg (WA .u8 32 (chK zz i))),kp (WA .u8 32 fun _=>0) 22 11 (WA .u8 32 (chK zz i)),.val fun _=>True]
    [.none,.none,.none,.none,.none,.none,.none,.none,.none,.none,.none,.own 10 1]
    [some 28,some 29,some 30,some 31,some 32,some 33,some 34,some 35,some 36,some 37,some 12,none]
    [(8,.pointer (some ⟨c8,0,none⟩)),(10,.string (lstT zz i)),(11,.int .i64 (i:Int))]
    [[],[.slot 0],[],[],[.slot 3],[.slot 4],[.slot 5],[.slot 6,.cont 6 0],[.slot 2,.slot 7],[.slot 1,.slot 8,.cont 8 0],[],[.slot 10,.cont 10 0,.slot 9]]
    [.slot 10,.cont 10 1] [28,29,30,31,32,33,34,35,36,37,12]
    rfl (by kernel_rfl) ⟨rfl,rfl,rfl,trivial⟩ (Below.refl _ v0).drew (Nat.le_refl _) trivial trivial (below_G (Nat.le_refl _) trivial)
    ⟨
     (fun _ _ ww _ _ _ fr _=>sV (exec_sl (v:=.pointer (some ⟨c8,0,none⟩)) rfl fr.1 (sl32w c8 ww))),
     (fun _ _ ww _ hS _ _ kn=>sV (exec_conv rfl kn.1 (str_back 32 c8 32 ww 32 _ (ArrAt.row (HG8.out ww hS)) HZB.out rfl))),
     (fun _ _ _ _ _ _ fr _=>sV (exec_move rfl fr.2.1)),
     (fun _ _ _ _ _ _ fr _=>sV (exec_move rfl fr.2.2.1)),
     (fun _ _ _ _ _ _ _ kn=>sV (exec_addV (m:=i) (n:=1) rfl kn.1 rfl HP.out.symm (by omega))),
     (fun _ _ _ _ _ _ _ kn=>sV (exec_conv rfl kn.1 (conv_ib _ _))),
     (fun _ _ _ _ _ _ _ kn=>.inl ⟨trivial,fun K hK=>act_bsB rfl kn.1 (fun v hg hb=>hK _ _ ⟨touch_below hb,_,Nat.le_refl _,rfl,obIn hg⟩)⟩),
     (fun _ _ ww _ _ _ _ kn=>sV (exec_conv rfl kn.1.1 (str_back 1 _ 1 ww 1 _ (ArrAt.row (obAt kn.2.1)) (fun j _=>by omega) rfl))),
     (fun _ _ _ _ _ _ _ kn=>.inl ⟨trivial,fun K hK=>act_bs2 rfl kn.1 kn.2.1 (fun v hg hb=>hK _ _ ⟨touch_below hb,_,Nat.le_refl _,rfl,⟨_,hg,rfl⟩⟩)⟩),
     (fun _ _ ww _ hS _ _ kn=>.inl ⟨trivial,fun K hK=>stepc enterMACc rfl (args2 kn.1 kn.2.1.1) (HMC.out _ ww (HT.out ww hS) (strsC2 kn.2.2.1)) (fun w' hb=>hK _ _ ⟨touch_below hb,rfl⟩)⟩),
     (fun _ _ _ _ _ _ _ _=>.inl ⟨trivial,fun K hK=>act_alloc zero32 rfl (fun w' hb hg=>hK _ _ ⟨touch_below hb,_,Nat.le_refl _,rfl,obIn hg⟩)⟩),
     (fun _ _ _ _ _ _ _ kn=>.inl ⟨trivial,fun K hK=>act_arr rfl isArr32 kn.1.1 kn.2.2.1 (obAt kn.2.1) (fun w2 hg ho=>hK _ _ ⟨touch_only ho,obIn hg,trivial⟩)⟩),
     trivial⟩ ?_
   intro vs own v5 hB5 hs5 kn inj
   clear inj hs5
   replace g8:=g8.kept hB5
   replace hO:=ownR_kept hO hB5
   replace hB:=hB.trans (hB5.mono hB.size)
   obtain ⟨e12,hb12,_⟩:=kn.1
   change vs 12=_ at e12
   have gC:ArrAt v5 (own 10) .u8 22 32 (chK zz i):=obAt kn.2.1
   clear kn hB5
   simp only[putAll,Act.put,List.setIfInBounds_toArray,List.set_cons_zero,List.set_cons_succ,e12]
   generalize own 10=c12 at *
   go_wp2_with (first|(refine ld_arr isArr32 gC (by rfl) ?_)|(refine wl_bsR (by rfl) ?_;intro v6 g6 hb6;refine Hid.out ?_))
   replace g8:=g8.kept hb6
   replace gC:=gC.kept hb6
   replace hO:=ownR_kept hO hb6
   replace hB:=hB.trans (hb6.mono hB.size)
   have HBS:=Hid.mk hB.size
   clear hb6
   refine Hid.mk ?_
   have hz8:=g8.lt
   go_wp2_with (refine ap_rows (by rfl) (by rfl) hO g6 (by omega) (by have:=g8.lt;omega) ?_;intro vb v7 hO7 hb7 hk7;refine Hid.out ?_)
   have gC7:ArrAt v7 c12 .u8 22 32 (chK zz i):=gC.block (hk7 c12 gC.lt (HOB.out c12 hb12))
   have g87:=g8.below hb7 (by omega)
   have hB7:=hB.trans (hb7.mono (by omega))
   have hcv:=str_back 32 c12 32 v7 32 (chK zz i) gC7.row (fun j _=>macF_b _ _ j) rfl
   have HLN:Hid (mkS 32 (chK zz i)=lstT zz (i+1)):=Hid.mk (lstT_next zz i).symm
   clear hO hb7 hk7 gC g8 hB HG8 HOB g6 HMC HT
   refine Hid.mk ?_
   go_wp2_with fail
   rw[HLN.out]
   go_roundg (n-(i+1))
   case rel=>exact ⟨i+1,p+1,Hid.mk (by omega),Hid.mk (by have:=HP.out;omega),by go_num,rfl,g87,hO7,hB7⟩
   case measure=>have:=HI.out;omega
  ·have hi2:i=n:=by omega
   subst hi2
   go_wp2_with fail
   exact bodyPost_ret (v:=.tuple #[u9,.int .i64 0]) (results_two Tryz.results148 (by rfl) (by rfl)) rfl ⟨u9,c8+1,rfl,by omega,hO,hB⟩
def gup (x:Int):Ending:=.panicked [{ v:=.iface 32 (.int .i64 x),recovered:=false }]
theorem need_ok (x:Int) (w:World):Calls Tryz.prog 98 #[.bool true,.int .i64 x] w fun e w'=>e=.returned (.tuple #[])∧w'=w:=by
 go_enter Tryz.func98,Tryz.ntmps98
 go_wp2_with fail
 exact bodyPost_end (results_none rfl _ _ _) rfl ⟨rfl,rfl⟩
theorem need_no (x:Int) (w:World):Calls Tryz.prog 98 #[.bool false,.int .i64 x] w fun e w'=>e=gup x∧w'=w:=by
 go_enter Tryz.func98,Tryz.ntmps98
 go_wp2_with fail
 exact ⟨rfl,rfl,rfl⟩
theorem catch_up (p:Addr) (x y:Int) (w:World) (hc:w.cell? p=some (.int .i64 y)) (hz:w.frozen? p=false) :
  CallsD Tryz.prog 77 #[.pointer (some p)] (.panicking [{ v:=.iface 32 (.int .i64 x),recovered:=false }]) w fun e u' w' =>
   e=.returned (.tuple #[])∧u'=.panicking [{ v:=.iface 32 (.int .i64 x),recovered:=true }]∧w'=w.setCell p (.int .i64 x):=by
 have hta:∀ u,(Instr.typeAssert (.iface 32 (.int .i64 x)) 20 32 false).run Tryz.prog u=.ok (.int .i64 x) u:=fun u=>by kernel_rfl
 refine callsD_of_wpS Tryz.func77 rfl fun c₀ cs hu=>?_
 apply wpS_seq
 apply wpS_region
 simp[wpOpsS,go_sem,recoverD,hu,Tryz.ntmps77,Exit.thenS]
 apply wpS_seq
 apply wpS_region
 simp[wpOpsS,go_sem,Exit.thenS]
 refine wpS_cond (t:=true) (by simp[Act.eval,Array.replicate]) ?_
 simp only[if_true]
 apply wpS_region
 simp[wpOpsS,go_sem,hta,hc,hz,bodyPostS,results,Tryz.results77]
theorem catch_idle (p:Addr) (w:World) :
  CallsD Tryz.prog 77 #[.pointer (some p)] .returning w fun e u' w'=>e=.returned (.tuple #[])∧u'=.returning∧w'=w:=by
 refine callsD_of_wpS Tryz.func77 rfl fun c₀ cs hu=>?_
 apply wpS_seq
 apply wpS_region
 simp[wpOpsS,go_sem,recoverD,hu,Tryz.ntmps77,Exit.thenS]
 apply wpS_seq
 apply wpS_region
 simp[wpOpsS,go_sem,Exit.thenS]
 refine wpS_cond (t:=false) (by simp[Act.eval,Array.replicate]) ?_
 simp only[Bool.false_eq_true,if_false]
 refine wpS_of_wp (wp_skip ?_)
 cases c₀
 simp_all [bodyPostS,results,Tryz.results77]
theorem attempt_run (k:FuncId) (cap:Array Value) (T:Nat→Prop) (R:Int→World→Prop) (w:World) (hk:∀ args u,(callFunc k args).run Tryz.prog u=.ok (.enter k args) u) (hT:∀ x,T x→x<w.heap.size)
  (hc:∀ u,Below w.heap.size w u→Calls Tryz.prog k cap u fun e w'=>Touch T u w'∧∃ x,((e=.returned (.tuple #[])∧x=0)∨e=gup x)∧R x w') :
  Calls Tryz.prog 34 #[.func (.func k) #[] cap] w fun e w'=>∃ x v,e=.returned (.int .i64 x)∧R x v∧Touch T w w'∧Below w.heap.size v w':=by
 have hmf:∀ (fn:Fn) (first cap:Array Value) (w:World),(Instr.makeFunc fn first cap).run Tryz.prog w=.ok (.func fn first cap) w:=fun _ _ _ _=>rfl
 have hB:Below w.heap.size w (w.alloc (.cells #[.int .i64 0] 32)):=(Below.refl _ w).alloc (Nat.le_refl _) _
 have hcell:(w.alloc (.cells #[.int .i64 0] 32)).heap[w.heap.size]?=some (.cells #[.int .i64 0] 32 (0,0)):=heap_alloc_new w _
 go_enter_defers Tryz.func34,Tryz.ntmps34
 go_wp2_with fail
 refine (hc _ hB).mono ?_
 rintro e v ⟨ht,x,hx,hR⟩
 have hrow:v.heap[w.heap.size]?=some (.cells #[.int .i64 0] 32 (0,0)):=(ht.block w.heap.size (by simp) (fun h=>by have:=hT _ h;omega)).trans hcell
 have c0:v.cell? ⟨w.heap.size,0,none⟩=some (.int .i64 0):=cell_of_row v _ 0 _ _ _ hrow
 have z0:v.frozen? ⟨w.heap.size,0,none⟩=false:=frozen_of_row v _ 0 _ _ hrow
 have fin:∀ u,Only w.heap.size v u→Touch T w u∧Below w.heap.size v u:=fun u o=>⟨⟨o.os.trans (ht.os.trans hB.os),o.tape.trans (ht.tape.trans hB.tape),o.output.trans (ht.output.trans hB.output),by have h1:=ht.size;have h2:=hB.size;have h3:=o.size;omega,
  fun k hk hn=>(o.block k (by omega)).trans ((ht.block k (by have:=hB.size;omega) hn).trans (hB.block k hk))⟩,o.below (Nat.le_refl _)⟩
 clear hc hrow hcell hB ht hT hk
 rcases hx with ⟨rfl,rfl⟩ | rfl
 ·go_wp2_with fail
  refine leaves_cons (f:=77) (args:=#[.pointer (some ⟨w.heap.size,0,none⟩)]) (by simp) (by simp[go_sem]) ?_
  refine (catch_idle ⟨w.heap.size,0,none⟩ _).mono ?_
  rintro e u' w'' ⟨rfl,rfl,rfl⟩
  have c1:(v.setCell ⟨w.heap.size,0,none⟩ (.int .i64 0)).cell? ⟨w.heap.size,0,none⟩=some (.int .i64 0):=by simp[go_sem,c0]
  refine ⟨.int .i64 0,by simp[results,Tryz.results34,go_sem,c1],0,v,rfl,hR,(fin _ only_set).1,(fin _ only_set).2⟩
 ·refine leaves_cons (f:=77) (args:=#[.pointer (some ⟨w.heap.size,0,none⟩)]) (by simp) (by simp[go_sem]) ?_
  refine (catch_up ⟨w.heap.size,0,none⟩ x 0 _ c0 z0).mono ?_
  rintro e u' w'' ⟨rfl,rfl,rfl⟩
  have c1:(v.setCell ⟨w.heap.size,0,none⟩ (.int .i64 x)).cell? ⟨w.heap.size,0,none⟩=some (.int .i64 x):=by simp[go_sem,c0]
  refine ⟨.int .i64 x,by simp[results,Tryz.results34,go_sem,c1],x,v,rfl,hR,(fin _ only_set).1,(fin _ only_set).2⟩
theorem shr4 (n:Int) (i:Nat) (hi:i<4) (w:World):(binOp .shr 23 (.int .u32 n) (.int .i64 (8*(i:Int)))).run Tryz.prog w=.ok (.int .u32 (n/256 ^ i)) w:=by
 match i,hi with
 | 0,_=>simp[go_sem]
 | 1,_=>simp[go_sem]
 | 2,_=>simp[go_sem]
 | 3,_=>simp[go_sem]
theorem exec_shr4 {a:Act} {o:Oper} {w:World} {x y:Operand} (ho:o.op=.binOp .shr 23 x y 3) {n:Int} {i:Nat} (hx:a.eval x=.int .u32 n) (hy:a.eval y=.int .i64 (8*(i:Int))) (hi:i<4):(execOp a.eval o).run Tryz.prog w=.ok (.value (.int .u32 (n/256 ^ i))) w:=exec_bin2 ho hx hy rfl (shr4 n i hi w)
theorem lowest4_run (n:Int) (w:World) :
  Calls Tryz.prog 122 #[.int .u32 n] w fun e w'=>e=.returned (.string (mkS 4 (digN n)))∧Below w.heap.size w w':=by
 have g1:ArrAt (w.alloc (.cells (WA .u8 4 fun _=>0) 179)) w.heap.size .u8 179 4 (fun _=>0):=heap_alloc_new w _
 have hB:Below w.heap.size w (w.alloc (.cells (WA .u8 4 fun _=>0) 179)):=(Below.refl _ w).alloc (by simp) _
 go_enter Tryz.func122,Tryz.ntmps122
 go_wp2_with fail
 go_loopg [5] 4 (fun gm iv v=>∃ i:Nat,Hid (gm+i=4)∧iv=.int .i64 (i:Int)∧ArrAt v w.heap.size .u8 179 4 (fun j=>if j<i then digN n j else 0)∧Below w.heap.size w v)
 case atStart=>exact ⟨0,Hid.mk rfl,rfl,g1.congr (fun j _=>by rw[if_neg (by omega)]),hB⟩
 case round =>
  clear g1 hB
  obtain ⟨i,HI,rfl,g1,hB⟩:=hrel
  have hi8:i≤4:=by have:=HI.out;omega
  by_cases hil:i<4
  ·have c0:=g1.cell i hil
   have f0:=g1.free i
   have g2:=Hid.mk ((g1.set i (n/256 ^ i%256) hil).congr (s':=fun j=>if j<i+1 then digN n j else 0) (fun j _=>by
    unfold upd
    by_cases e:j=i
    ·subst e;rw[if_pos rfl,if_pos (by omega)];rfl
    ·rw[if_neg e]
     show (if j<i then digN n j else 0)=_
     by_cases h:j<i
     ·rw[if_pos h,if_pos (by omega)]
     ·rw[if_neg h,if_neg (by omega)]))
   go_wp2_with (refine wl_value rfl (exec_shr4 rfl (by rfl) (by rfl) hil) ?_)
   generalize n/256 ^ i=q at *
   go_wp2_with fail
   go_roundg (4-(i+1))
   case rel=>exact ⟨i+1,Hid.mk (by omega),by go_num,g2.out,Below.setCell (p:=⟨w.heap.size,i,none⟩) hB (by simp) _⟩
   case measure=>have:=HI.out;omega
  ·have hi2:i=4:=by omega
   subst hi2
   replace g1:=g1.congr (s':=digN n) (fun j hj=>by rw[if_pos hj])
   have hcv:=str_back 4 w.heap.size 4 _ 4 (digN n) g1.row (fun j _=>digN_b n j) rfl
   go_wp2_with fail
   go_ret
   exact ⟨rfl,hB⟩
def numA (m:ByteArray) (p:Nat):Nat→Int
 | 0=>0
 | i+1=>numA m p i+txt m (p+i)*256 ^ i
theorem numA_b (m:ByteArray) (p:Nat):∀ i,0≤numA m p i∧numA m p i<256 ^ i
 | 0=>by unfold numA;omega
 | i+1=>by
  have ih:=numA_b m p i
  have h:=txt_b m (p+i)
  have hp:(0:Int)<256 ^ i:=Int.pow_pos (by omega)
  have h1:0≤txt m (p+i)*256 ^ i:=Int.mul_nonneg h.1 (by omega)
  have h2:txt m (p+i)*256 ^ i≤255*256 ^ i:=Int.mul_le_mul_of_nonneg_right (by omega) (by omega)
  unfold numA
  rw[Int.pow_succ]
  omega
theorem shl4 (x:Int) (i:Nat) (hx:0≤x∧x<256) (hi:i<4) (w:World):(binOp .shl 23 (.int .u32 x) (.int .i64 (8*(i:Int)))).run Tryz.prog w=.ok (.int .u32 (x*256 ^ i)) w:=by
 match i,hi with
 | 0,_=>simp[go_sem,IntKind.wrap_u32];omega
 | 1,_=>simp[go_sem,IntKind.wrap_u32];omega
 | 2,_=>simp[go_sem,IntKind.wrap_u32];omega
 | 3,_=>simp[go_sem,IntKind.wrap_u32];omega
theorem exec_shl4 {a:Act} {o:Oper} {w:World} {x y:Operand} (ho:o.op=.binOp .shl 23 x y 3) {n:Int} {i:Nat} (hx:a.eval x=.int .u32 n) (hy:a.eval y=.int .i64 (8*(i:Int))) (hn:0≤n∧n<256) (hi:i<4):(execOp a.eval o).run Tryz.prog w=.ok (.value (.int .u32 (n*256 ^ i))) w:=exec_bin2 ho hx hy rfl (shl4 n i hn hi w)
theorem or4n (a x:Int) (i:Nat) (ha:0≤a∧a<256 ^ i) (hx:0≤x∧x<256) (hi:i<4):bits .or .u32 a (x*256 ^ i)=a+x*256 ^ i:=by
 match i,hi with
 | 0,_=>exact or_add a x 0 (256 ^ 0) rfl ha.1 (by omega) (by omega) hx.1 (by omega)
 | 1,_=>exact or_add a x 8 (256 ^ 1) rfl ha.1 (by omega) (by omega) hx.1 (by omega)
 | 2,_=>exact or_add a x 16 (256 ^ 2) rfl ha.1 (by omega) (by omega) hx.1 (by omega)
 | 3,_=>exact or_add a x 24 (256 ^ 3) rfl ha.1 (by omega) (by omega) hx.1 (by omega)
theorem exec_or4 {a:Act} {o:Oper} {w:World} {x y:Operand} (ho:o.op=.binOp .or 23 x y 23) {m n:Int} {i:Nat} (hx:a.eval x=.int .u32 m) (hy:a.eval y=.int .u32 (n*256 ^ i)) (hm:0≤m∧m<256 ^ i) (hn:0≤n∧n<256) (hi:i<4):(execOp a.eval o).run Tryz.prog w=.ok (.value (.int .u32 (m+n*256 ^ i))) w:=by
 have h:=or4n m n i hm hn hi
 exact exec_bin2 ho hx hy rfl (by rw[← h];simp[go_sem])
theorem numberAt_run (m:ByteArray) (p:Nat) (w:World) (hp:p+4≤m.size) (hq:p≤1000) :
  Calls Tryz.prog 112 #[.string m,.int .i64 (p:Int)] w fun e w'=>e=.returned (.int .u32 (numA m p 4))∧w'=w:=by
 go_enter Tryz.func112,Tryz.ntmps112
 go_wp2_with fail
 go_loopg [5,7] 4 (fun gm av iv v=>∃ i:Nat,Hid (gm+i=4)∧iv=.int .i64 (i:Int)∧av=.int .u32 (numA m p i)∧v=w)
 case atStart=>exact ⟨0,Hid.mk rfl,rfl,rfl,rfl⟩
 case round =>
  obtain ⟨i,HI,rfl,rfl,rfl⟩:=hrel
  have hi8:i≤4:=by have:=HI.out;omega
  by_cases hil:i<4
  ·have hA:=numA_b m p i
   have hT:=txt_b m (p+i)
   have HN:Hid (numA m p i+txt m (p+i)*256 ^ i=numA m p (i+1)):=Hid.mk rfl
   have HX:Hid (p+i<m.size):=Hid.mk (by omega)
   go_wp2_with (first|(refine wl_value rfl (exec_ixs (j:=p+i) rfl (by rfl) (by show Value.int .i64 _=_;congr 1) HX.out) ?_)|(refine wl_value rfl (exec_shl4 (i:=i) rfl (by rfl) (by rfl) hT hil) ?_)|(refine wl_value rfl (exec_or4 rfl (by rfl) (by rfl) hA hT hil) ?_))
   rw[HN.out]
   go_roundg (4-(i+1))
   case rel=>exact ⟨i+1,Hid.mk (by omega),by go_num,rfl,rfl⟩
   case measure=>have:=HI.out;omega
  ·have hi2:i=4:=by omega
   subst hi2
   go_wp2_with fail
   go_ret
   exact ⟨rfl,rfl⟩
theorem wl_bytes {ops:Array Oper} {rest:List Oper} {d:Option Tmp} {x:Operand} {ty:TypeId} {ps:String} {af:Array Edge} {a:Act} {w:World} {Q:Exit→Act→World→Prop} {s:ByteArray} {n:Nat} (hx:a.eval x=.string s) (hn:s.size=n)
  (h:∀ w' cp,RowAt w' w.heap.size .u8 5 n (txt s)→Below w.heap.size w w'→wpList Tryz.prog ops Q rest (a.put d (.slice (some ⟨w.heap.size,0,none⟩) n cp)) w') :
  wpList Tryz.prog ops Q ({ dst:=d,op:=.convert 9 81 x,type:=ty,pos:=ps,after:=af,guard:=none }::rest) a w:=by
 subst hn
 obtain ⟨cp,v,hr,hR,hb⟩:=conv_str s w
 refine wl_act rfl ?_
 unfold Oper.wp execOp
 simp only[hx,Sem.run_bind,hr,Result.andThen_ok,Sem.run_pure,Oper.upon]
 exact h v cp hR hb
theorem act_bytes {o:Oper} {a:Act} {w:World} {K:Act→World→Prop} {Q:Exit→Act→World→Prop} {x:Operand} (ho:o.op=.convert 9 81 x) {s:ByteArray} {n:Nat} (hx:a.eval x=.string s) (hn:s.size=n)
  (h:∀ w' cp,RowAt w' w.heap.size .u8 5 n (txt s)→Below w.heap.size w w'→K (a.put o.dst (.slice (some ⟨w.heap.size,0,none⟩) n cp)) w'):o.wp Tryz.prog a w K Q:=by
 subst hn
 obtain ⟨cp,v,hr,hR,hb⟩:=conv_str s w
 unfold Oper.wp execOp
 simp only[ho,hx,Sem.run_bind,hr,Result.andThen_ok,Sem.run_pure,Oper.upon]
 exact h v cp hR hb
theorem exec_toa {a:Act} {o:Oper} {w:World} {x:Operand} {t:TypeId} (ho:o.op=.sliceToArrayPointer t x) {v r:Value} (hx:a.eval x=v) (hr:(Instr.arrayAt t v).run Tryz.prog w=.ok r w):(execOp a.eval o).run Tryz.prog w=.ok (.value r) w:=by
 unfold execOp
 simp[ho,hx,hr]
theorem toa12 (b cap:Nat) (w:World):(Instr.arrayAt 26 (.slice (some ⟨b,0,none⟩) 12 cap)).run Tryz.prog w=.ok (.pointer (some ⟨b,0,none⟩)) w:=by simp[go_sem,Instr.arrayAt]
theorem toa24 (b cap:Nat) (w:World):(Instr.arrayAt 53 (.slice (some ⟨b,0,none⟩) 24 cap)).run Tryz.prog w=.ok (.pointer (some ⟨b,0,none⟩)) w:=by simp[go_sem,Instr.arrayAt]
theorem row_range {w:World} {b n:Nat} {t:TypeId} {s:Nat→Int} (h:RowAt w b .u8 t n s):w.rangeAt b 0 (nums .u8 n s):=fun j v hv=>by
 obtain ⟨hj,rfl⟩:=nums_get hv
 rw[Nat.zero_add]
 exact h.cell j hj
theorem exec_slB {a:Act} {o:Oper} {w:World} {x y z:Operand} {t:TypeId} (ho:o.op=.slice t x (some y) (some z) none) {v u r s:Value} (hx:a.eval x=v) (hy:a.eval y=u) (hz:a.eval z=r) (hr:(Instr.sliceAt t v (some u) (some r) none).run Tryz.prog w=.ok s w):(execOp a.eval o).run Tryz.prog w=.ok (.value s) w:=by
 unfold execOp
 simp only[ho,hx,hy,hz,Option.map,Sem.run_bind,hr,Result.andThen_ok,Sem.run_pure]
theorem strB (s:ByteArray) (l n:Nat) (w:World) (h1:l≤n) (h:n≤s.size):(Instr.sliceAt 9 (.string s) (some (.int .i64 (l:Int))) (some (.int .i64 (n:Int))) none).run Tryz.prog w=.ok (.string (s.extract l n)) w:=by
 have h2:(l:Int)≤(n:Int):=by omega
 have h3:(n:Int)≤(s.size:Int):=by omega
 simp[go_sem,h2,h3]
theorem touch_le {T:Nat→Prop} {w w':World} (h:Below w.heap.size w w'):Touch T w w':=⟨h.os,h.tape,h.output,h.size,fun k hk _=>h.block k hk⟩
def Env (w:World):Prop:=Tabs w∧Fld.PrimeAt w
theorem Env.two {w:World} (h:Env w):3≤w.heap.size:=h.1.two
theorem Env.blk {w w':World} (h:Env w) (e:∀ k,k<3→w'.heap[k]?=w.heap[k]?):Env w':=by
 have h0:=e 0 (by decide)
 exact ⟨h.1.block (e _ (by decide)) (e _ (by decide)),⟨(World.cell?_of_block (w:=w) h0).trans h.2.1,(World.cell?_of_block (w:=w) h0).trans h.2.2.1,(World.cell?_of_block (w:=w) h0).trans h.2.2.2.1,(World.cell?_of_block (w:=w) h0).trans h.2.2.2.2⟩⟩
theorem Env.below {B:Nat} {w w':World} (h:Env w) (hb:Below B w w') (hB:3≤B):Env w':=h.blk (fun k hk=>hb.block k (by omega))
theorem Env.kept {w w':World} (h:Env w) (hb:Below w.heap.size w w'):Env w':=h.below hb h.two
theorem Env.touch {b:Nat} {w w':World} (h:Env w) (ht:Touch (fun x=>x=b) w w') (hb:3≤b):Env w':=h.blk (fun k hk=>ht.block k (by have:=h.two;omega) (by omega))
theorem Env.only {b:Nat} {w w':World} (h:Env w) (ht:Only b w w') (hb:3≤b):Env w':=h.blk (fun k hk=>ht.block k (by omega))
theorem str_cells (b off n:Nat) (w:World) (f:Nat→Int) (hf:Byts n f) (hr:w.rangeAt b off (nums .u8 n f)) {cp:Nat}:(convert 81 9 (.slice (some ⟨b,off,none⟩) n cp)).run Tryz.prog w=.ok (.string (mkS n f)) w:=by
 have h:=run_convert_bytes_back (P:=Tryz.prog) w 81 9 5 ⟨b,off,none⟩ cp (bytesL n f) Tryz.underlying81 Tryz.underlying5 Tryz.underlying9 (fun j hj=>by
  rw[bytesL_len] at hj
  rw[Addr.add_lit,hr j _ (nums_at .u8 n f hj)]
  have:=hf j hj
  simp[bytesL]
  omega)
 rw[bytesL_len] at h
 exact h
theorem sl32o (b o:Nat) (w:World):(Instr.sliceAt 22 (.pointer (some ⟨b,o,none⟩)) none none none).run Tryz.prog w=.ok (.slice (some ⟨b,o,none⟩) 32 32) w:=by simp[go_sem]
def ktF (H C K:Nat→Int):Nat→Int:=cat 64 (cat 32 H C) K
def KtAt (w:World) (b:Nat) (H C K:Nat→Int):Prop:=ArrAt w b .u8 121 96 (ktF H C K)
section
variable {w w':World} {b:Nat} {H C K:Nat→Int}
theorem KtAt.lt (h:KtAt w b H C K):b<w.heap.size:=ArrAt.lt h
theorem KtAt.kept (h:KtAt w b H C K) (hb:Below w.heap.size w w'):KtAt w' b H C K:=ArrAt.kept h hb
theorem KtAt.h (h:KtAt w b H C K):w.rangeAt b 0 (nums .u8 32 H):=fun j v hj=>by
 obtain ⟨hj2,rfl⟩:=nums_get hj
 rw[Nat.zero_add,ArrAt.cell h j (by omega)]
 unfold ktF cat
 rw[if_pos (by omega),if_pos hj2]
theorem KtAt.c (h:KtAt w b H C K):w.rangeAt b 32 (nums .u8 32 C):=fun j v hj=>by
 obtain ⟨hj2,rfl⟩:=nums_get hj
 rw[ArrAt.cell h (32+j) (by omega)]
 unfold ktF cat
 rw[if_pos (by omega),if_neg (by omega),Nat.add_sub_cancel_left]
theorem KtAt.part {o m:Nat} {r:Nat→Int} (h:KtAt w b H C K) (hm:o+m≤96):ArrAt (w.setCells b o (nums .u8 m r)) b .u8 121 96 (over (ktF H C K) o m r)∧Only b w (w.setCells b o (nums .u8 m r)):=by
 obtain ⟨C',h1,h2,h3,h4,h5⟩:=setCells_heap (nums .u8 m r) o w _ h (by rw[nums_len,WA_size];exact hm)
 rw[nums_len] at h3 h4
 rw[WA_size] at h2
 have e:C'=WA .u8 96 (over (ktF H C K) o m r):=WA_ext h2 (fun i hi=>by
  unfold over
  by_cases h:o≤i∧i<o+m
  ·rw[if_pos h]
   have:=h3 (i-o) (by omega)
   rw[show o+(i-o)=i by omega] at this
   rw[this,nums_at .u8 m r (by omega)]
  ·rw[if_neg h,h4 i (by omega),WA_get .u8 96 _ i hi])
 exact ⟨by unfold ArrAt;rw[h1,e],h5⟩
theorem KtAt.setH (h:KtAt w b H C K) (X:Nat→Int):KtAt (w.setCells b 0 (nums .u8 32 X)) b X C K∧Only b w (w.setCells b 0 (nums .u8 32 X)):=by
 obtain ⟨h1,h2⟩:=h.part (o:=0) (m:=32) (r:=X) (by omega)
 refine ⟨h1.congr (fun i hi=>?_),h2⟩
 unfold over ktF cat
 by_cases e:0≤i∧i<0+32
 ·rw[if_pos e]
  rw[if_pos (by omega),if_pos (by omega),Nat.sub_zero]
 ·rw[if_neg e]
  by_cases e1:i<64
  ·rw[if_pos e1,if_pos e1]
   by_cases e2:i<32
   ·first|(exfalso;omega) | rw[if_pos e2,if_pos e2]
   ·first|(exfalso;omega) | rw[if_neg e2,if_neg e2]
  ·first|(exfalso;omega) | rw[if_neg e1,if_neg e1] | rfl
theorem KtAt.setC (h:KtAt w b H C K) (X:Nat→Int):KtAt (w.setCells b 32 (nums .u8 32 X)) b H X K∧Only b w (w.setCells b 32 (nums .u8 32 X)):=by
 obtain ⟨h1,h2⟩:=h.part (o:=32) (m:=32) (r:=X) (by omega)
 refine ⟨h1.congr (fun i hi=>?_),h2⟩
 unfold over ktF cat
 by_cases e:32≤i∧i<32+32
 ·rw[if_pos e]
  rw[if_pos (by omega),if_neg (by omega)]
 ·rw[if_neg e]
  by_cases e1:i<64
  ·rw[if_pos e1,if_pos e1]
   by_cases e2:i<32
   ·first|(exfalso;omega) | rw[if_pos e2,if_pos e2]
   ·first|(exfalso;omega) | rw[if_neg e2,if_neg e2]
  ·first|(exfalso;omega) | rw[if_neg e1,if_neg e1] | rfl
end
theorem st_kth {ops:Array Oper} {rest:List Oper} {d:Option Tmp} {x y:Operand} {t:TypeId} {ps:String} {af:Array Edge} {a:Act} {w:World} {Q:Exit→Act→World→Prop} {b:Nat} {H C K X:Nat→Int}
  (hg:KtAt w b H C K) (hx:a.eval x=.pointer (some ⟨b,0,none⟩)) (hy:a.eval y=.agg (WA .u8 32 X)) (h:∀ w2,KtAt w2 b X C K→Only b w w2→wpList Tryz.prog ops Q rest (a.put d undef) w2) :
  wpList Tryz.prog ops Q ({ dst:=d,op:=.store 22 x y,type:=t,pos:=ps,after:=af,guard:=none }::rest) a w:=by
 obtain ⟨_,_,_,h3⟩:=isArr32
 have h2:=hg.setH X
 exact wpList_store_mid rfl 22 x y rfl b 0 (WA .u8 32 X) hx hy (by rw[WA_size];exact there_row hg (by rw[WA_size];omega)) (by rw[WA_size];exact h3) (WA_one .u8 32 X) (h _ h2.1 h2.2)
theorem st_ktc {ops:Array Oper} {rest:List Oper} {d:Option Tmp} {x y:Operand} {t:TypeId} {ps:String} {af:Array Edge} {a:Act} {w:World} {Q:Exit→Act→World→Prop} {b:Nat} {H C K X:Nat→Int}
  (hg:KtAt w b H C K) (hx:a.eval x=.pointer (some ⟨b,32,none⟩)) (hy:a.eval y=.agg (WA .u8 32 X)) (h:∀ w2,KtAt w2 b H X K→Only b w w2→wpList Tryz.prog ops Q rest (a.put d undef) w2) :
  wpList Tryz.prog ops Q ({ dst:=d,op:=.store 22 x y,type:=t,pos:=ps,after:=af,guard:=none }::rest) a w:=by
 obtain ⟨_,_,_,h3⟩:=isArr32
 have h2:=hg.setC X
 exact wpList_store_mid rfl 22 x y rfl b 32 (WA .u8 32 X) hx hy (by rw[WA_size];exact there_row hg (by rw[WA_size];omega)) (by rw[WA_size];exact h3) (WA_one .u8 32 X) (h _ h2.1 h2.2)
theorem keys_run (b n:Nat) (H C K:Nat→Int) (s:ByteArray) (w:World) (hE:Env w) (g:KtAt w b H C K) (hC:Byts 32 C) (hs:s.size≤140737488355328) (h1:1≤n) (h8:n≤8) :
  Calls Tryz.prog 119 #[.pointer (some ⟨b,0,none⟩),.int .i64 (n:Int),.string s] w fun e w'=>∃ gl cl,e=.returned (.slice (some ⟨gl,0,none⟩) n cl)∧w.heap.size≤gl∧RowsAt w' gl n 0 (chn C s)∧Below w.heap.size w w':=by
 have hr:=g.c
 have hCh:=fun u hT=>Chain_run n C s u hT hC h1 h8 hs
 change ∀ u,Tabs u→Calls Tryz.prog 148 #[.int .i64 (n:Int),.agg (WA .u8 32 C),.string s] u fun e w'=>∃ v B,e=.returned (.tuple #[v,.int .i64 0])∧u.heap.size≤B∧w'.ownsRow B 22 32 v n (rowsL (chn C s) n)∧Below u.heap.size u w' at hCh
 have HT:=Hid.mk hE.1
 clear hE
 go_enter Tryz.func119,Tryz.ntmps119
 go_wp2_with (refine wl_value rfl (exec_ldmid rfl isArr32 (by rfl) hr) ?_)
 refine (hCh _ HT.out).mono ?_
 rintro e v1 ⟨vl,Bl,rfl,hBl,hO,hb1⟩
 obtain ⟨gl,cl,rfl,hgl,rL⟩:=own_rows hO (by omega)
 clear hr hO hCh
 go_wp2_with fail
 go_ret
 exact ⟨gl,cl,rfl,by omega,rL,hb1⟩
theorem chainIn_run (b:Nat) (H C K:Nat→Int) (s:ByteArray) (w:World) (hE:Env w) (g:KtAt w b H C K) (hC:Byts 32 C) (hs:s.size≤140737488355328) :
  Calls Tryz.prog 92 #[.pointer (some ⟨b,0,none⟩),.string s] w fun e w'=>e=.returned (.tuple #[])∧KtAt w' b H (chn C s 0) K∧Touch (fun x=>x=b) w w':=by
 have hbl:=g.lt
 go_enter Tryz.func92,Tryz.ntmps92
 go_wp2_with fail
 refine (keys_run b 1 H C K s _ hE g hC hs (by omega) (by omega)).mono ?_
 rintro e v1 ⟨gl,cl,rfl,hgl,rL,hb1⟩
 replace g:=g.kept hb1
 have ht:=belT b hb1
 have hr0:=rL.range (Nat.le_refl 0) (by omega)
 clear hb1 hE
 go_wp2_with (first|(refine wl_value rfl (exec_idx32 (i:=0) rfl (by rfl) (by rfl) (by omega)) ?_)|(refine wl_value rfl (exec_ldmid rfl isArr32 (by rfl) hr0) ?_)|(refine st_ktc g (by rfl) (by rfl) ?_;intro v3 g3 o3;refine Hid.out ?_))
 refine Hid.mk ?_
 go_wp2_with fail
 exact bodyPost_end (results_none rfl _ _ _) rfl ⟨rfl,g3,ht.trans (touch_only o3)⟩
def mixL (H:Nat→Int) (ts:Nat→ByteArray):Nat→Nat→Int
 | 0=>H
 | n+1=>mixH (mixL H ts n) (ts n)
theorem mixL_b {H:Nat→Int} (hH:Byts 32 H) (ts:Nat→ByteArray):∀ n,Byts 32 (mixL H ts n)
 | 0=>hH
 | _+1=>mixH_b _ _ 32
theorem mixIn_run (b:Nat) (H C K:Nat→Int) (v:Value) (cnt:Nat) (ts:Nat→ByteArray) (w:World) (hE:Env w) (hb3:3≤b) (g:KtAt w b H C K) (hH:Byts 32 H)
  (hv:∀ w',Touch (fun x=>x=b) w w'→Strs w' v cnt ts) (hcn:cnt≤1000) (hsz:∀ i,i<cnt→(ts i).size≤562949953421312) :
  Calls Tryz.prog 117 #[.pointer (some ⟨b,0,none⟩),v] w fun e w'=>e=.returned (.tuple #[])∧KtAt w' b (mixL H ts cnt) C K∧Touch (fun x=>x=b) w w':=by
 obtain ⟨a,c,rfl,hp⟩:=hv w (Touch.refl _ _)
 have HV:=Hid.mk hv
 have HSZ:=Hid.mk hsz
 have HE:Hid (∀ u,Touch (fun x=>x=b) w u→Env u):=Hid.mk (fun u hu=>hE.touch hu hb3)
 clear hv hp hsz hE
 go_enter Tryz.func117,Tryz.ntmps117
 go_wp2_with fail
 go_loopg [8] cnt (fun gm iv v=>∃ i:Nat,Hid (gm+i=cnt)∧iv=.int .i64 (i:Int)∧KtAt v b (mixL H ts i) C K∧Touch (fun x=>x=b) w v)
 case atStart=>exact ⟨0,Hid.mk rfl,rfl,g,Touch.refl _ _⟩
 case round =>
  clear g
  obtain ⟨i,HI,rfl,g,ht⟩:=hrel
  have hin:i≤cnt:=by have:=HI.out;omega
  by_cases hil:i<cnt
  ·obtain ⟨a',c',e,hp⟩:=HV.out wr ht
   simp only[Value.slice.injEq] at e
   obtain ⟨rfl,_,rfl⟩:=e
   obtain ⟨p,rfl,hc⟩:=hp (by omega)
   have hc1:=hc i hil
   have hE:=HE.out wr ht
   clear hc hp
   have hHi:=mixL_b hH ts i
   have HS:Hid (mixH (mixL H ts i) (ts i)=mixL H ts (i+1)):=Hid.mk rfl
   have hss:=HSZ.out i hil
   generalize mixL H ts i=Hi at *
   generalize ts i=s at *
   have hcv:=str_cells b 0 32 wr Hi hHi g.h (cp:=32)
   have hd:decide ((i:Int)<(cnt:Int))=true:=by simp;omega
   go_wp2_with (refine wl_bs2 (s:=mkS 32 Hi) (t:=s) (by rfl) (by rfl) ?_;intro v5 hS5 hb5 hz5;refine Hid.out ?_)
   clear hcv hc1 hz5
   replace g:=g.kept hb5
   replace hE:=hE.kept hb5
   replace ht:=ht.trans (belT b hb5)
   clear hb5
   refine Hid.mk ?_
   go_wp2_with fail
   refine (hSum_run _ 2 (two2 (mkS 32 Hi) s) _ hE.1 hS5 (by omega) (by rw[join2,ByteArray.size_append,mkS_size];omega)).mono ?_
   rintro x v6 ⟨rfl,hb6⟩
   rw[join2]
   change KtAt v5 b Hi C K at g
   have HM:Hid (sumF (mkS 32 Hi++s)=mixL H ts (i+1)):=Hid.mk HS.out
   replace g:=g.kept hb6
   replace ht:=ht.trans (belT b hb6)
   clear hb6 hS5 hE
   go_wp2_with (refine st_kth g (by rfl) (by rfl) ?_;intro v7 g7 o7;refine Hid.out ?_)
   rw[HM.out] at g7
   refine Hid.mk ?_
   go_wp2_with fail
   go_roundg (cnt-(i+1))
   case rel=>exact ⟨i+1,Hid.mk (by omega),by go_num,g7,ht.trans (touch_only o7)⟩
   case measure=>have:=HI.out;omega
  ·have hi2:i=cnt:=by omega
   subst hi2
   have hd:decide ((i:Int)<(i:Int))=false:=by simp
   go_wp2_with fail
   exact bodyPost_end (results_none rfl _ _ _) rfl ⟨rfl,g,ht⟩
theorem ephemeralIn_run (b:Nat) (H C K e:Nat→Int) (w:World) (hE:Env w) (hb3:3≤b) (g:KtAt w b H C K) (hH:Byts 32 H) (hC:Byts 32 C) (he:Byts 32 e) :
  Calls Tryz.prog 79 #[.pointer (some ⟨b,0,none⟩),.agg (WA .u8 32 e)] w fun x w'=>x=.returned (.tuple #[])∧KtAt w' b (mixH H (mkS 32 e)) (chn C (mkS 32 e) 0) K∧Touch (fun x=>x=b) w w':=by
 have hbl:=g.lt
 have hB:Below w.heap.size w (w.alloc (.cells (WA .u8 32 e) 22)):=(Below.refl _ w).alloc (Nat.le_refl _) _
 have g0:ArrAt (w.alloc (.cells (WA .u8 32 e) 22)) w.heap.size .u8 22 32 e:=heap_alloc_new w _
 have hcv:=str_back 32 w.heap.size 32 _ 32 e g0.row he rfl
 have HE:=Hid.mk (hE.kept hB)
 have HG:=Hid.mk (g.kept hB)
 have ht:=belT b hB
 clear hE g hB
 go_enter Tryz.func79,Tryz.ntmps79
 go_wp2_with fail
 refine (chainIn_run b H C K (mkS 32 e) _ HE.out HG.out hC (by rw[mkS_size];omega)).mono ?_
 rintro x v1 ⟨rfl,g,t1⟩
 have hE:=HE.out.touch t1 hb3
 replace g0:=g0.touch t1 (by omega)
 replace ht:=ht.trans t1
 clear t1 hcv HE HG
 have hcv:=str_back 32 w.heap.size 32 _ 32 e g0.row he rfl
 have hes:(mkS 32 e).size≤562949953421312:=by rw[mkS_size];omega
 obtain ⟨et,het⟩:∃ et,mkS 32 e=et:=⟨_,rfl⟩
 rw[het] at hes hcv g
 obtain ⟨C1,hC1⟩:∃ C1,chn C et 0=C1:=⟨_,rfl⟩
 rw[hC1] at g
 go_wp2_with (refine wl_bs1 (s:=et) (by rfl) ?_;intro v5 hS5 hb5 hz5;refine Hid.out ?_)
 have hst:=g.lt
 replace g:=g.kept hb5
 replace hE:=hE.kept hb5
 replace ht:=ht.trans (belT b hb5)
 clear hz5
 refine Hid.mk ?_
 go_wp2_with fail
 refine (mixIn_run b H C1 K _ 1 (one1 et) _ hE hb3 g hH (fun u hu=>hS5.touch (fun p n c hp=>by cases hp;exact Nat.ne_of_gt hst) hu) (by omega) (fun i _=>hes)).mono ?_
 rintro x v6 ⟨rfl,g6,t6⟩
 go_wp2_with fail
 refine bodyPost_end (results_none rfl _ _ _) rfl ⟨rfl,?_,ht.trans t6⟩
 rw[het,hC1]
 exact g6
theorem secret_no (f:Value) (M U:Nat→Int) (w:World) (hE:Env w) (hM:Byts 32 M) (hU:Byts 32 U) (hz:shZ M U=false) :
  Calls Tryz.prog 80 #[f,.agg (WA .u8 32 M),.agg (WA .u8 32 U)] w fun e w'=>e=gup 18∧Below w.heap.size w w':=by
 have hB:Below w.heap.size w ((w.alloc (.cells (WA .u8 32 M) 22)).alloc (.cells (WA .u8 32 U) 22)):=((Below.refl _ w).alloc (by simp) _).alloc (by simp) _
 have g0:ArrAt ((w.alloc (.cells (WA .u8 32 M) 22)).alloc (.cells (WA .u8 32 U) 22)) w.heap.size .u8 22 32 M:=heap_alloc2_old w _ _
 have g1:ArrAt ((w.alloc (.cells (WA .u8 32 M) 22)).alloc (.cells (WA .u8 32 U) 22)) (w.heap.size+1) .u8 22 32 U:=heap_alloc2_new w _ _
 have hEB:=hE.kept hB
 have HP:=Hid.mk hEB.2
 go_enter Tryz.func80,Tryz.ntmps80
 go_wp2_with (first|(refine ld_arr isArr32 g0 (by rfl) ?_)|(refine ld_arr isArr32 g1 (by rfl) ?_))
 refine (Shared_run M U _ HP.out hM hU).mono ?_
 rintro x v1 ⟨rfl,hb1⟩
 replace hB:=hB.trans (hb1.mono hB.size)
 clear hb1 g0 g1 hEB HP
 rw[hz]
 generalize shF M U=S at *
 have hv1:=hB.size
 go_wp2_with (refine wl_alloc32 ?_;intro v2 gs hb2;refine Hid.out ?_)
 replace hB:=hB.trans (hb2.mono hB.size)
 clear hb2
 refine Hid.mk ?_
 go_wp2_with (refine st_arr isArr32 gs (by rfl) (by rfl) ?_;intro v3 gs3 o3;refine Hid.out ?_)
 replace hB:=hB.trans (o3.below hv1)
 clear o3 gs
 refine Hid.mk ?_
 go_wp2_with fail
 refine (need_no 18 _).mono ?_
 rintro x v4 ⟨rfl,rfl⟩
 exact ⟨rfl,rfl,hB⟩
theorem run_ktB (H C:Nat→Int) (w:World):(Instr.build 121 #[(0,.agg (WA .u8 32 H)),(1,.agg (WA .u8 32 C))]).run Tryz.prog w=.ok (.agg (WA .u8 96 (ktF H C fun _=>0))) w:=by kernel_rfl
theorem exec_ktB {a:Act} {o:Oper} {w:World} {x y:Operand} (ho:o.op=.build 121 #[(0,x),(1,y)]) {H C:Nat→Int} (hx:a.eval x=.agg (WA .u8 32 H)) (hy:a.eval y=.agg (WA .u8 32 C)):(execOp a.eval o).run Tryz.prog w=.ok (.value (.agg (WA .u8 96 (ktF H C fun _=>0)))) w:=by
 have h:=run_ktB H C w
 unfold execOp
 simp only[ho,List.map_toArray,List.map_cons,List.map_nil,hx,hy,Sem.run_bind,h,Result.andThen_ok,Sem.run_pure]
theorem wl_boxK {ops:Array Oper} {rest:List Oper} {d:Option Tmp} {x:Operand} {t:TypeId} {ps:String} {af:Array Edge} {a:Act} {w:World} {Q:Exit→Act→World→Prop} {H C K:Nat→Int} (hx:a.eval x=.agg (WA .u8 96 (ktF H C K)))
  (h:∀ w',KtAt w' w.heap.size H C K→Below w.heap.size w w'→wpList Tryz.prog ops Q rest (a.put d (.pointer (some ⟨w.heap.size,0,none⟩))) w') :
  wpList Tryz.prog ops Q ({ dst:=d,op:=.box 121 x,type:=t,pos:=ps,after:=af,guard:=none }::rest) a w:=by
 refine wl_act rfl ?_
 unfold Oper.wp execOp
 simp only[hx]
 simp[go_sem]
 exact h _ (heap_alloc_new w _) ((Below.refl _ _).alloc (Nat.le_refl _) _)
theorem mixL2 (H:Nat→Int) (s t:ByteArray):mixL H (two2 s t) 2=mixH (mixH H s) t:=by simp only[mixL,two2]
theorem beginning_gen (t C0:Nat→Int) (w:World) (hE:Env w) (ht:Byts 32 t) (hC0:Byts 32 C0)
  (hS:∀ u v,Tabs u→Strs u v 1 (one1 ⟨#[78,111,105,115,101,95,73,75,112,115,107,50,95,50,53,53,49,57,95,67,104,97,67,104,97,80,111,108,121,95,66,76,65,75,69,50,115]⟩)→Calls Tryz.prog 107 #[v] u fun e w'=>e=.returned (.agg (WA .u8 32 C0))∧Below u.heap.size u w') :
  Calls Tryz.prog 78 #[.agg (WA .u8 32 t)] w fun e w'=>∃ b,w.heap.size≤b∧e=.returned (.pointer (some ⟨b,0,none⟩))∧KtAt w' b (mixH (mixH C0 ⟨#[97,100,105,116,32,49]⟩) (mkS 32 t)) C0 (fun _=>0)∧Below w.heap.size w w':=by
 have hB:Below w.heap.size w (w.alloc (.cells (WA .u8 32 t) 22)):=(Below.refl _ w).alloc (Nat.le_refl _) _
 have g0:ArrAt (w.alloc (.cells (WA .u8 32 t) 22)) w.heap.size .u8 22 32 t:=heap_alloc_new w _
 have hE1:=Hid.mk (hE.kept hB)
 have h3:=hE.two
 clear hE
 go_enter Tryz.func78,Tryz.ntmps78
 go_wp2_with (refine wl_bs1 (s:=⟨#[78,111,105,115,101,95,73,75,112,115,107,50,95,50,53,53,49,57,95,67,104,97,67,104,97,80,111,108,121,95,66,76,65,75,69,50,115]⟩) (by rfl) ?_;intro v1 hS1 hb1 hz1;refine Hid.out ?_)
 have e1:∀ o,(w.alloc o).heap.size=w.heap.size+1:=fun o=>by simp
 rw[e1] at hS1
 have hE:=hE1.out.kept hb1
 replace hB:=hB.trans (hb1.mono hB.size)
 replace g0:=g0.kept hb1
 clear hE1 hz1 hb1 e1
 refine Hid.mk ?_
 go_wp2_with fail
 refine (hS _ _ hE.1 hS1).mono ?_
 rintro x v2 ⟨rfl,hb2⟩
 replace hE:=hE.kept hb2
 replace hB:=hB.trans (hb2.mono hB.size)
 replace g0:=g0.kept hb2
 clear hb2 hS1 hS
 have hlt:=g0.lt
 have hB2:=hB.size
 go_wp2_with (refine wl_alloc32 ?_;intro v3 gn hb3;refine Hid.out ?_)
 replace hE:=hE.kept hb3
 replace hB:=hB.trans (hb3.mono hB.size)
 replace g0:=g0.kept hb3
 clear hb3
 refine Hid.mk ?_
 go_wp2_with (refine st_arr isArr32 gn (by rfl) (by rfl) ?_;intro v4 gn4 o4;refine Hid.out ?_)
 replace hE:=hE.only o4 (by omega)
 replace hB:=hB.trans (o4.below hB2)
 replace g0:=g0.only o4 (by omega)
 clear o4 gn
 refine Hid.mk ?_
 have hB4:=hB.size
 go_wp2_with (first|(refine ld_arr isArr32 gn4 (by rfl) ?_)|(refine wl_value rfl (exec_ktB rfl (by rfl) (by rfl)) ?_)|(refine wl_boxK (by rfl) ?_;intro v5 g5 hb5;refine Hid.out ?_))
 have hb3:3≤v4.heap.size:=by omega
 have hg04:=g0.lt
 replace hE:=hE.kept hb5
 replace hB:=hB.trans (hb5.mono hB.size)
 replace g0:=g0.kept hb5
 clear hb5 gn4
 refine Hid.mk ?_
 obtain ⟨b,hb⟩:∃ b,v4.heap.size=b:=⟨_,rfl⟩
 rw[hb] at g5 hb3 hB4 hg04 ⊢
 clear hb
 have hcv:=str_back 32 w.heap.size 32 v5 32 t g0.row ht rfl
 go_wp2_with (refine wl_bs2 (s:=⟨#[97,100,105,116,32,49]⟩) (t:=mkS 32 t) (by rfl) (by rfl) ?_;intro v6 hS6 hb6 hz6;refine Hid.out ?_)
 have hst:=g5.lt
 replace hE:=hE.kept hb6
 replace hB:=hB.trans (hb6.mono hB.size)
 replace g5:=g5.kept hb6
 clear hb6 hcv hz6
 refine Hid.mk ?_
 go_wp2_with fail
 refine (mixIn_run b C0 C0 _ _ 2 (two2 ⟨#[97,100,105,116,32,49]⟩ (mkS 32 t)) _ hE hb3 g5 hC0 (fun u hu=>hS6.touch (fun p n c hp=>by cases hp;exact Nat.ne_of_gt hst) hu) (by omega) (fun i hi=>by
  match i,hi with
  | 0,_=>exact (show (6:Nat)≤562949953421312 by omega)
  | 1,_=>show (mkS 32 t).size≤_;rw[mkS_size];omega)).mono ?_
 rintro x v7 ⟨rfl,g7,t7⟩
 rw[mixL2] at g7
 go_wp2_with fail
 go_ret
 exact ⟨b,hB4,rfl,g7,belowT hB t7 hB4 (Nat.le_refl _)⟩
theorem beginning_run (t:Nat→Int) (w:World) (hE:Env w) (ht:Byts 32 t) :
  Calls Tryz.prog 78 #[.agg (WA .u8 32 t)] w fun e w'=>∃ b,w.heap.size≤b∧e=.returned (.pointer (some ⟨b,0,none⟩))∧KtAt w' b (begH t) begC (fun _=>0)∧Below w.heap.size w w' :=
 beginning_gen t begC w hE ht (begC_b 32) (fun u v hT hS=>by
  have h:=hSum_run v 1 (one1 ⟨#[78,111,105,115,101,95,73,75,112,115,107,50,95,50,53,53,49,57,95,67,104,97,67,104,97,80,111,108,121,95,66,76,65,75,69,50,115]⟩) u hT hS (by omega) (by rw[join1];exact (show (37:Nat)≤1152921504606846976 by omega))
  rw[join1] at h
  exact h)
theorem kind_iff {s:ByteArray} (hs:s.size=4) (n:UInt8):numT s=(n.toNat:Int)↔s=⟨#[n,0,0,0]⟩:=by
 have h0:=txt_b s 0
 have h1:=txt_b s 1
 have h2:=txt_b s 2
 have h3:=txt_b s 3
 have hn:=n.toNat_lt
 constructor
 ·intro h
  unfold numT at h
  have e0:txt s 0=(n.toNat:Int):=by omega
  have e1:txt s 1=0:=by omega
  have e2:txt s 2=0:=by omega
  have e3:txt s 3=0:=by omega
  refine same_ext (by rw[hs];rfl) (fun j hj=>?_)
  rw[hs] at hj
  match j,hj with
  | 0,_=>exact e0
  | 1,_=>exact e1
  | 2,_=>exact e2
  | 3,_=>exact e3
 ·rintro rfl
  show (n.toNat:Int)+0*256+0*65536+0*16777216=_
  omega
theorem numT_four (n:Int) (h:W32 n):numT (fourT n)=n:=by
 have e:∀ j,j<4→txt (fourT n) j=digN n j:=fun j hj=>txt_mkS (digN_b n j) hj
 unfold numT
 rw[e 0 (by omega),e 1 (by omega),e 2 (by omega),e 3 (by omega)]
 have e0:digN n 0=n%256:=by unfold digN;rw[Int.pow_zero,Int.ediv_one]
 have e1:digN n 1=n/256%256:=rfl
 have e2:digN n 2=n/65536%256:=rfl
 have e3:digN n 3=n/16777216%256:=rfl
 rw[e0,e1,e2,e3]
 unfold W32 at h
 omega
end Go.Proofs.YthghcjepdhkfdaaGreatDoor
