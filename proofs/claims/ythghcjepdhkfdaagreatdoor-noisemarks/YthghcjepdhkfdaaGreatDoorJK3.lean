/-
  Own text. What take of the document's answer for blake does.
-/
import Derived.Test.YthghcjepdhkfdaaGreatDoorJK2
import Derived.Test.YthghcjepdhkfdaaGreatDoorJK1
import Derived.Deep.OwnRows
set_option maxHeartbeats 16000000
set_option maxRecDepth 100000
namespace Go.Proofs.YthghcjepdhkfdaaGreatDoor
open Go.RowKit Go.Proofs
theorem run_bsI (n:Int) (w:World):(Instr.buildSlice 171 1 #[(0,.int .i64 n)]).run Tryz.prog w=.ok (.slice (some ⟨w.heap.size,0,none⟩) 1 1) (w.alloc (.cells #[.int .i64 n] 3)):=by simp[go_sem]
theorem act_bsI {o:Oper} {a:Act} {w:World} {K:Act→World→Prop} {Q:Exit→Act→World→Prop} {x:Operand} (ho:o.op=.buildSlice 171 1 #[(0,x)]) {n:Int} (hx:a.eval x=.int .i64 n)
  (h:∀ v,v.heap[w.heap.size]?=some (.cells (WA .i64 1 fun _=>n) 3 (0,0))→Below w.heap.size w v→K (a.put o.dst (.slice (some ⟨w.heap.size,0,none⟩) 1 1)) v):o.wp Tryz.prog a w K Q:=by
 have hr:=run_bsI n w
 unfold Oper.wp execOp
 simp only[ho,List.map_toArray,List.map_cons,List.map_nil,hx,Sem.run_bind,hr,Result.andThen_ok,Sem.run_pure,Oper.upon]
 exact h _ (heap_alloc_new w _) ((Below.refl _ _).alloc (Nat.le_refl _) _)
theorem cat_zero8 (f r:Nat→Int):∀ i,i<0+8→cat 0 f r i=r i:=fun i _=>by simp[cat]
theorem touch_mono_false {b:Nat} {u v:World} (h:Touch (fun _=>False) u v):Touch (fun x=>x=b) u v:=h.mono (fun _ _ h=>h.elim)
theorem RowAt.touch {w w':World} {g b:Nat} {k:IntKind} {t:TypeId} {n:Nat} {s:Nat→Int} (h:RowAt w g k t n s) (ht:Touch (fun x=>x=b) w w') (hg:g≠b):RowAt w' g k t n s:=h.block (ht.block g h.lt hg)
theorem begV_false (h V0:Nat→Int) (t:Int) (h0:∀ q,q<16→V0 q=if q<8 then h q else bgn (q-8)):∀ i,i<16→upd (upd V0 12 (xorw (V0 12) (t%4294967296))) 13 (xorw (upd V0 12 (xorw (V0 12) (t%4294967296)) 13) (t/4294967296)) i=begV h t false i:=fun i hi=>by
 have h12:V0 12=bgn 4:=h0 12 (by omega)
 have h13:V0 13=bgn 5:=h0 13 (by omega)
 unfold upd begV
 by_cases e13:i=13
 ·subst e13;simp[h13]
 ·by_cases e12:i=12
  ·subst e12;simp[h12]
  ·simp[e12,e13,h0 i hi]
theorem begV_true (h V2:Nat→Int) (t:Int) (h0:∀ q,q<16→V2 q=begV h t false q):∀ i,i<16→upd V2 14 (xorw (V2 14) 4294967295) i=begV h t true i:=fun i hi=>by
 have h14:V2 14=bgn 6:=h0 14 (by omega)
 unfold upd
 by_cases e14:i=14
 ·subst e14;rw[if_pos rfl,h14];rfl
 ·rw[if_neg e14,h0 i hi]
  unfold begV
  simp[e14]
theorem orders_run' (w:World):Calls Tryz.prog 174 #[] w fun e w'=>∃ bo,e=.returned (.slice (some ⟨bo+10,0,none⟩) 10 10)∧w.heap.size≤bo∧(∀ s,s<10→w'.cell? ⟨bo+10,s,none⟩=some (.slice (some ⟨bo+s,0,none⟩) 16 16)∧ArrAt w' (bo+s) .i64 3 16 (ordI s))∧Below w.heap.size w w' :=
 (orders_run w).mono fun _ _ ⟨h1,h2,h3⟩=>⟨w.heap.size,h1,Nat.le_refl _,h2,h3⟩
theorem rtake_run (bh ch bb cb:Nat) (h s:Nat→Int) (t:Int) (last:Bool) (w:World) (hH:RowAt w bh .i64 3 8 h) (hS:RowAt w bb .u8 5 64 s) (hh:∀ i,i<8→W32 (h i)) (hs:Byts 64 s) (ht:0≤t∧t<4611686018427387904) :
  Calls Tryz.prog 145 #[.slice (some ⟨bh,0,none⟩) 8 ch,.slice (some ⟨bb,0,none⟩) 64 cb,.int .i64 t,.bool last] w fun e w' =>
   e=.returned (.tuple #[])∧RowAt w' bh .i64 3 8 (takeF h s t last)∧(∀ i,i<8→W32 (takeF h s t last i))∧Touch (fun k=>k=bh) w w':=by
 have HSB:=Hid.mk hs
 go_enter Tryz.func145,Tryz.ntmps145
 go_wp2_with fail
 go_loopg [8,9] 16 (fun gm mv iv v=>∃ i:Nat,Hid (gm+i=16)∧iv=.int .i64 (i:Int)∧v.ownsRow w.heap.size 3 1 mv i (nums .i64 i (bwd s))∧Below w.heap.size w v)
 case atStart=>exact ⟨0,Hid.mk rfl,rfl,World.ownsRow_nil _ _ _ _,Below.refl _ _⟩
 case round =>
  obtain ⟨i,HI,rfl,hO,hB⟩:=hrel
  have hi16:i≤16:=by have:=HI.out;omega
  by_cases hil:i<16
  ·go_wp2_with fail
   refine wp_gen (fun v=>v.ownsRow w.heap.size 3 1 u8 i (nums .i64 i (bwd s))∧Below w.heap.size w v) ⟨hO,hB⟩ ?_
   clear hO hB
   rintro v0 ⟨hO,hB⟩
   have HS:Hid (∀ u,Below v0.heap.size v0 u→RowAt u bb .u8 5 64 s):=Hid.mk (fun u hu=>hS.below (hB.trans (hu.mono hB.size)) hS.lt)
   refine wp_region_cut 35 rfl (by kernel_rfl) (any_region3 (Below v0.heap.size v0) v0.heap.size
    ([]:List (Nat×Cont))
    (kv (u8)::kv (.slice (some ⟨bb,0,none⟩) 64 cb)::kv (.int .i64 ((i:Nat):Int))::kv (.int .i64 ((4*(i):Nat):Int))::kv (.pointer (some ⟨bb,0+(4*(i)),none⟩))::kv (.int .u8 (s (4*(i))))::kv (.int .i64 (s (4*(i))))::kv (.slice (some ⟨bb,0,none⟩) 64 cb)::kv (.int .i64 ((i:Nat):Int))::kv (.int .i64 ((4*(i):Nat):Int))::kv (.int .i64 ((4*(i)+1:Nat):Int))::kv (.pointer (some ⟨bb,0+(4*(i)+1),none⟩))::kv (.int .u8 (s (4*(i)+1)))::kv (.int .i64 (s (4*(i)+1)))::kv (.int .i64 (256*s (4*(i)+1)))::kv (.int .i64 (s (4*(i))+256*s (4*(i)+1)))::kv (.slice (some ⟨bb,0,none⟩) 64 cb)::kv (.int .i64 ((i:Nat):Int))::kv (.int .i64 ((4*(i):Nat):Int))::kv (.int .i64 ((4*(i)+2:Nat):Int))::kv (.pointer (some ⟨bb,0+(4*(i)+2),none⟩))::kv (.int .u8 (s (4*(i)+2)))::kv (.int .i64 (s (4*(i)+2)))::kv (.int .i64 (65536*s (4*(i)+2)))::kv (.int .i64 (s (4*(i))+256*s (4*(i)+1)+65536*s (4*(i)+2)))::kv (.slice (some ⟨bb,0,none⟩) 64 cb)::kv (.int .i64 ((i:Nat):Int))::kv (.int .i64 ((4*(i):Nat):Int))::kv (.int .i64 ((4*(i)+3:Nat):Int))::kv (.pointer (some ⟨bb,0+(4*(i)+3),none⟩))::kv (.int .u8 (s (4*(i)+3)))::kv (.int .i64 (s (4*(i)+3)))::kv (.int .i64 (16777216*s (4*(i)+3)))::kv (.int .i64 (s (4*(i))+256*s (4*(i)+1)+65536*s (4*(i)+2)+16777216*s (4*(i)+3)))::ks 1 (WA .i64 1 fun _=>s (4*(i))+256*s (4*(i)+1)+65536*s (4*(i)+2)+16777216*s (4*(i)+3)) 3::[])
    (.none::.none::.none::.none::.none::.none::.none::.none::.none::.none::.none::.none::.none::.none::.none::.none::.none::.none::.none::.none::.none::.none::.none::.none::.none::.none::.none::.none::.none::.none::.none::.none::.none::.none::.none::[])
    (some 21::some 22::some 23::some 24::some 25::some 26::some 27::some 28::some 29::some 30::some 31::some 32::some 33::some 34::some 35::some 36::some 37::some 38::some 39::some 40::some 41::some 42::some 43::some 44::some 45::some 46::some 47::some 48::some 49::some 50::some 51::some 52::some 53::some 54::some 55::[])
    [(8,u8),(1,.slice (some ⟨bb,0,none⟩) 64 cb),(9,.int .i64 ((i:Nat):Int))]
    ([]::[]::[]::[.slot 2]::[.slot 1,.slot 3]::[.slot 4]::[.slot 5]::[]::[]::[.slot 8]::[.slot 9]::[.slot 7,.slot 10]::[.slot 11]::[.slot 12]::[.slot 13]::[.slot 6,.slot 14]::[]::[]::[.slot 17]::[.slot 18]::[.slot 16,.slot 19]::[.slot 20]::[.slot 21]::[.slot 22]::[.slot 15,.slot 23]::[]::[]::[.slot 26]::[.slot 27]::[.slot 25,.slot 28]::[.slot 29]::[.slot 30]::[.slot 31]::[.slot 24,.slot 32]::[.slot 33]::[])
    [.slot 0,.slot 34,.cont 34 0] (21::22::23::24::25::26::27::28::29::30::31::32::33::34::35::36::37::38::39::40::41::42::43::44::45::46::47::48::49::50::51::52::53::54::55::[])
    (by kernel_rfl) ⟨rfl,rfl,rfl,trivial⟩ (Below.refl _ v0).drew (Nat.le_refl _) trivial trivial (below_G (Nat.le_refl _) trivial)
    ⟨
     (fun _ _ _ _ _ _ fr _=>sV (exec_move rfl fr.1)),
     (fun _ _ _ _ _ _ fr _=>sV (exec_move rfl fr.2.1)),
     (fun _ _ _ _ _ _ fr _=>sV (exec_move rfl fr.2.2.1)),
     (fun _ _ _ _ _ _ _ kn=>sV (exec_mulN (m:=4) rfl rfl kn.1 (by omega))),
     (fun _ _ _ _ _ _ _ kn=>sV (exec_idx rfl Tryz.underlying81 size_byte kn.1 kn.2.1 (by omega))),
     (fun _ _ ww _ hS _ _ kn=>sV (exec_ld rfl kn.1 (run_load8 (cell8 (HS.out ww hS) (by omega))))),
     (fun _ _ _ _ _ _ _ kn=>sV (exec_conv rfl kn.1 (conv_bi (HSB.out (4*(i)) (by omega)) _))),
     (fun _ _ _ _ _ _ fr _=>sV (exec_move rfl fr.2.1)),
     (fun _ _ _ _ _ _ fr _=>sV (exec_move rfl fr.2.2.1)),
     (fun _ _ _ _ _ _ _ kn=>sV (exec_mulN (m:=4) rfl rfl kn.1 (by omega))),
     (fun _ _ _ _ _ _ _ kn=>sV (exec_addN (n:=1) rfl kn.1 rfl (by omega))),
     (fun _ _ _ _ _ _ _ kn=>sV (exec_idx rfl Tryz.underlying81 size_byte kn.1 kn.2.1 (by omega))),
     (fun _ _ ww _ hS _ _ kn=>sV (exec_ld rfl kn.1 (run_load8 (cell8 (HS.out ww hS) (by omega))))),
     (fun _ _ _ _ _ _ _ kn=>sV (exec_conv rfl kn.1 (conv_bi (HSB.out (4*(i)+1) (by omega)) _))),
     (fun _ _ _ _ _ _ _ kn=>sV (exec_mul (m:=256) rfl rfl kn.1 (by have:=HSB.out (4*(i)+1) (by omega);omega) (by have:=HSB.out (4*(i)+1) (by omega);omega))),
     (fun _ _ _ _ _ _ _ kn=>sV (exec_add rfl kn.1 kn.2.1 (by have h0:=HSB.out (4*(i)) (by omega);have h1:=HSB.out (4*(i)+1) (by omega);omega) (by have h0:=HSB.out (4*(i)) (by omega);have h1:=HSB.out (4*(i)+1) (by omega);omega))),
     (fun _ _ _ _ _ _ fr _=>sV (exec_move rfl fr.2.1)),
     (fun _ _ _ _ _ _ fr _=>sV (exec_move rfl fr.2.2.1)),
     (fun _ _ _ _ _ _ _ kn=>sV (exec_mulN (m:=4) rfl rfl kn.1 (by omega))),
     (fun _ _ _ _ _ _ _ kn=>sV (exec_addN (n:=2) rfl kn.1 rfl (by omega))),
     (fun _ _ _ _ _ _ _ kn=>sV (exec_idx rfl Tryz.underlying81 size_byte kn.1 kn.2.1 (by omega))),
     (fun _ _ ww _ hS _ _ kn=>sV (exec_ld rfl kn.1 (run_load8 (cell8 (HS.out ww hS) (by omega))))),
     (fun _ _ _ _ _ _ _ kn=>sV (exec_conv rfl kn.1 (conv_bi (HSB.out (4*(i)+2) (by omega)) _))),
     (fun _ _ _ _ _ _ _ kn=>sV (exec_mul (m:=65536) rfl rfl kn.1 (by have:=HSB.out (4*(i)+2) (by omega);omega) (by have:=HSB.out (4*(i)+2) (by omega);omega))),
     (fun _ _ _ _ _ _ _ kn=>sV (exec_add rfl kn.1 kn.2.1 (by have h0:=HSB.out (4*(i)) (by omega);have h1:=HSB.out (4*(i)+1) (by omega);have h2:=HSB.out (4*(i)+2) (by omega);omega) (by have h0:=HSB.out (4*(i)) (by omega);have h1:=HSB.out (4*(i)+1) (by omega);have h2:=HSB.out (4*(i)+2) (by omega);omega))),
     (fun _ _ _ _ _ _ fr _=>sV (exec_move rfl fr.2.1)),
     (fun _ _ _ _ _ _ fr _=>sV (exec_move rfl fr.2.2.1)),
     (fun _ _ _ _ _ _ _ kn=>sV (exec_mulN (m:=4) rfl rfl kn.1 (by omega))),
     (fun _ _ _ _ _ _ _ kn=>sV (exec_addN (n:=3) rfl kn.1 rfl (by omega))),
     (fun _ _ _ _ _ _ _ kn=>sV (exec_idx rfl Tryz.underlying81 size_byte kn.1 kn.2.1 (by omega))),
     (fun _ _ ww _ hS _ _ kn=>sV (exec_ld rfl kn.1 (run_load8 (cell8 (HS.out ww hS) (by omega))))),
     (fun _ _ _ _ _ _ _ kn=>sV (exec_conv rfl kn.1 (conv_bi (HSB.out (4*(i)+3) (by omega)) _))),
     (fun _ _ _ _ _ _ _ kn=>sV (exec_mul (m:=16777216) rfl rfl kn.1 (by have:=HSB.out (4*(i)+3) (by omega);omega) (by have:=HSB.out (4*(i)+3) (by omega);omega))),
     (fun _ _ _ _ _ _ _ kn=>sV (exec_add rfl kn.1 kn.2.1 (by have h0:=HSB.out (4*(i)) (by omega);have h1:=HSB.out (4*(i)+1) (by omega);have h2:=HSB.out (4*(i)+2) (by omega);have h3:=HSB.out (4*(i)+3) (by omega);omega) (by have h0:=HSB.out (4*(i)) (by omega);have h1:=HSB.out (4*(i)+1) (by omega);have h2:=HSB.out (4*(i)+2) (by omega);have h3:=HSB.out (4*(i)+3) (by omega);omega))),
     (fun _ _ _ _ _ _ _ kn=>.inl ⟨trivial,fun K hK=>act_bsI rfl kn.1 (fun v hg hb=>hK _ _ ⟨touch_below hb,_,Nat.le_refl _,rfl,obIn hg⟩)⟩),
     trivial⟩ ?_)
   intro vs own v5 hB5 hs5 kn inj
   clear inj hs5
   have e21:vs 21=u8:=kn.1
   obtain ⟨e55,hb55,_⟩:=kn.2.1
   change vs 55=_ at e55
   have g55:ArrAt v5 (own 34) .i64 3 1 (fun _=>bwd s i):=obAt kn.2.2.1
   clear kn
   generalize own 34=bo at *
   replace hO:=own_kept hO hB5
   replace hB:=hB.trans (hB5.mono hB.size)
   have HBS:=Hid.mk hB.size
   clear hB5
   show wpList Tryz.prog _ _ (_::_::[]) _ _
   simp only[putAll,Act.put,List.setIfInBounds_toArray,List.set_cons_zero,List.set_cons_succ,e21,e55]
   go_wp2_with (at_builtin;refine ap_own rfl _ _ 171 3 .i64 8 Tryz.underlying171 infoInt (by decide) (by rfl) (n:=i) (m:=1) (by rfl) hO (by rfl) (r:=fun _=>bwd s i) (fun j hj=>by rw[Nat.zero_add];exact g55.cell j hj) (by omega) HBS.out ?_;intro vb v6 h6 hb6;refine Hid.out ?_)
   rw[nums_congr (cat_one i (bwd s))] at h6
   replace hB:=hB.trans hb6
   clear hb6 hO g55 HS HBS e21 e55 hb55
   refine Hid.mk ?_
   go_wp2_with fail
   go_roundg (16-(i+1))
   case rel=>exact ⟨i+1,Hid.mk (by omega),by go_num,h6,hB⟩
   case measure=>have:=HI.out;omega
  ·have hi2:i=16:=by omega
   subst hi2
   obtain ⟨bm,cm,rfl,hbm,hcm,hM⟩:=own_row hO (by decide)
   clear hO hil hi16 HI
   cases last with
   | false =>
    have HR:Hid (∀ j,j<8→(wr.alloc (.cells #[] 3)).cell? ⟨bh,0+j,none⟩=some (.int .i64 (h j))):=Hid.mk (fun j hj=>by rw[Nat.zero_add];exact ((hH.below hB hH.lt).alloc _).cell j hj)
    go_wp2_with (at_builtin;refine ap_full rfl _ _ 171 3 .i64 8 Tryz.underlying171 infoInt (by decide) (by rfl) (n:=0) (m:=8) (f:=h) (by rfl) (fun j hj=>by omega) (by rfl) (r:=h) HR.out (by decide) (by decide) ?_;intro va v1 h1 hb1;refine Hid.out ?_)
    clear HR
    rw[nums_congr (cat_zero8 h h)] at h1
    have hz1:wr.heap.size+1≤v1.heap.size:=by have:=hb1.size;simpa using this
    replace h1:v1.ownsRow (wr.heap.size+1) 3 1 va 8 (nums .i64 8 h):=by simpa using h1
    have hb1':Below wr.heap.size wr v1:=((Below.refl _ wr).alloc (Nat.le_refl _) _).trans (hb1.mono (by simp))
    clear hb1
    refine Hid.mk ?_
    go_wp2_with fail
    refine (begin_run _).mono ?_
    rintro e v2 ⟨rfl,gB,hb2⟩
    replace h1:=own_kept h1 hb2
    have HZ2:Hid (wr.heap.size+1≤v2.heap.size):=Hid.mk (by have:=hb2.size;omega)
    have hb2':Below wr.heap.size wr v2:=hb1'.trans (hb2.mono (by omega))
    clear hb2 hb1'
    go_wp2_with (at_builtin;refine ap_own rfl _ _ 171 3 .i64 8 Tryz.underlying171 infoInt (by decide) (by rfl) (n:=8) (m:=8) (by rfl) h1 (by rfl) (r:=bgn) (fun j hj=>by rw[Nat.zero_add];exact gB.cell j hj) (by decide) HZ2.out ?_;intro vb v3 h3 hb3;refine Hid.out ?_)
    have hb3':Below wr.heap.size wr v3:=hb2'.trans (hb3.mono (by omega))
    clear hb3 hb2' gB h1 HZ2
    obtain ⟨bv,cv,rfl,hbv,hcv,hV⟩:=own_row h3 (by decide)
    clear h3
    have W0:∀ i,i<16→W32 (cat 8 h bgn i):=fun i hi=>by
     unfold cat
     split
     ·exact hh i (by omega)
     ·exact bgn_w _
    have HQ0:Hid (∀ q,q<16→cat 8 h bgn q=if q<8 then h q else bgn (q-8)):=Hid.mk (fun q _=>rfl)
    replace hV:RowAt v3 bv .i64 3 16 (cat 8 h bgn):=hV
    generalize cat 8 h bgn=V0 at *
    have hbv':wr.heap.size<bv:=by omega
    clear hbv
    have hMv:=hM.below hb3' hM.lt
    have hHv:=(hH.below hB hH.lt).below hb3' (Nat.lt_of_lt_of_le hH.lt hB.size)
    have hB3:=hB.trans (hb3'.mono hB.size)
    have hzz:bm<wr.heap.size:=hM.lt
    have hzh:bh<w.heap.size:=hH.lt
    have hzw:=hB.size
    clear hM hb3' hB
    have e1:t.tmod 4294967296=t%4294967296:=Int.tmod_eq_emod_of_nonneg ht.1
    have e2:t.tdiv 4294967296=t/4294967296:=Int.tdiv_eq_ediv_of_nonneg ht.1
    have T1:W32 (t%4294967296):=by unfold W32;omega
    have T2:W32 (t/4294967296):=by unfold W32;omega
    have c12:=hV.cell 12 (by omega)
    have f12:=hV.free 12 (by omega)
    have x12:bits .xor .i64 (V0 12) (t%4294967296)=xorw (V0 12) (t%4294967296):=i64_xor (W0 12 (by omega)) T1
    have hV1:=hV.set 12 (xorw (V0 12) (t%4294967296))
    have o12:Only bv v3 _:=only_set (w:=v3) (g:=bv) (i:=12) (v:=.int .i64 (xorw (V0 12) (t%4294967296)))
    have W1:∀ i,i<16→W32 (upd V0 12 (xorw (V0 12) (t%4294967296)) i):=w32_upd W0 (xorw_w (W0 12 (by omega)) T1)
    obtain ⟨V1,hV1e⟩:∃ V1,V1=upd V0 12 (xorw (V0 12) (t%4294967296)):=⟨_,rfl⟩
    rw[← hV1e] at hV1 W1
    have c13:=hV1.cell 13 (by omega)
    have f13:=hV1.free 13 (by omega)
    have x13:bits .xor .i64 (V1 13) (t/4294967296)=xorw (V1 13) (t/4294967296):=i64_xor (W1 13 (by omega)) T2
    have hV2:=hV1.set 13 (xorw (V1 13) (t/4294967296))
    have o13:Only bv _ _:=only_set (w:=(v3.setCell ⟨bv,12,none⟩ (.int .i64 (xorw (V0 12) (t%4294967296))))) (g:=bv) (i:=13) (v:=.int .i64 (xorw (V1 13) (t/4294967296)))
    have W2:∀ i,i<16→W32 (upd V1 13 (xorw (V1 13) (t/4294967296)) i):=w32_upd W1 (xorw_w (W1 13 (by omega)) T2)
    obtain ⟨V2,hV2e⟩:∃ V2,V2=upd V1 13 (xorw (V1 13) (t/4294967296)):=⟨_,rfl⟩
    rw[← hV2e] at hV2 W2
    have TT:=(touch_only o12).trans (touch_only o13)
    have HV1e:=Hid.mk hV1e
    have HV2e:=Hid.mk hV2e
    clear hV1e hV2e o12 o13 hV hV1
    have HB2:=Hid.mk (begV_false h V0 t HQ0.out)
    replace hV2:=hV2.mono (Nat.le_refl _) (s':=begV h t false) (fun i hi=>by rw[HV2e.out,HV1e.out];exact HB2.out i hi)
    replace W2:∀ i,i<16→W32 (begV h t false i):=fun i hi=>by rw[← HB2.out i hi,← HV1e.out,← HV2e.out];exact W2 i hi
    clear HV2e HB2
    refine Hid.mk ?_
    go_wp2_with fail
    refine (orders_run' _).mono ?_
    rintro e v5 ⟨bo,rfl,hbo,hord,hb5⟩
    replace hbo:v3.heap.size≤bo:=by simpa using hbo
    have hV5:RowAt v5 bv .i64 3 16 (begV h t false):=hV2.below hb5 hV2.lt
    have hM5:RowAt v5 bm .i64 3 16 (bwd s):=(hMv.touch TT (by omega)).below hb5 (hMv.touch TT (by omega)).lt
    have hH5:RowAt v5 bh .i64 3 8 h:=(hHv.touch TT (by omega)).below hb5 (hHv.touch TT (by omega)).lt
    have hlv:bv<bo:=by have:=hV2.lt;simp at this;omega
    have hB5:Below w.heap.size w v5:=(hB3.trans (below_touch TT (by omega) hB3.size)).trans (hb5.mono (by simp;exact hB3.size))
    clear hV2 hMv hHv hB3 hb5 TT c12 c13 f12 f13 x12 x13 e1 e2 T1 T2 W0 W1 HQ0 HV1e
    have WV0:Hid (∀ i,i<16→W32 (begV h t false i)):=Hid.mk W2
    clear W2
    go_wp2_with fail
    generalize wr=wo at *
    go_loopg [12] 10 (fun gm iv v=>∃ k:Nat,Hid (gm+k=10)∧iv=.int .i64 (k:Int)∧RowAt v bv .i64 3 16 (tenB (bwd s) (begV h t false) k)∧Hid (∀ i,i<16→W32 (tenB (bwd s) (begV h t false) k i))∧Touch (fun x=>x=bv) v5 v)
    case atStart=>exact ⟨0,Hid.mk rfl,rfl,hV5,WV0,Touch.refl _ _⟩
    case round =>
     obtain ⟨k,HK,rfl,hV,HW,hT⟩:=hrel
     have hk10:k≤10:=by have:=HK.out;omega
     by_cases hk:k<10
     ·have hcell:wr.cell? ⟨bo+10,k,none⟩=some (.slice (some ⟨bo+k,0,none⟩) 16 16):=by
       rw[← (hord k hk).1]
       exact World.cell?_of_block (hT.block (bo+10) (World.block_lt_of_cell? _ _ (hord k hk).1) (by omega))
      have hord5:RowAt v5 (bo+k) .i64 3 16 (ordI k):=(hord k hk).2.row
      have HN:Hid (diaB (bwd s) k (colB (bwd s) k (tenB (bwd s) (begV h t false) k) 4) 4=tenB (bwd s) (begV h t false) (k+1)):=Hid.mk rfl
      generalize tenB (bwd s) (begV h t false) k=X at *
      have hd:decide ((k:Int)<10)=true:=by simp;omega
      go_wp2_with fail
      generalize wr=wo1 at *
      clear hcell
      go_loopg [14] 4 (fun gm iv v=>∃ j:Nat,Hid (gm+j=4)∧iv=.int .i64 (j:Int)∧RowAt v bv .i64 3 16 (colB (bwd s) k X j)∧Hid (∀ i,i<16→W32 (colB (bwd s) k X j i))∧Touch (fun x=>x=bv) v5 v)
      case atStart=>exact ⟨0,Hid.mk rfl,rfl,hV,HW,hT⟩
      case round =>
       clear hV HW hT
       obtain ⟨j,HJ,rfl,hV,HW,hT⟩:=hrel
       have hj4:j≤4:=by have:=HJ.out;omega
       by_cases hj:j<4
       ·have hWV:=HW.out
        clear HW
        have o1:=ord_lt k hk (2*j) (by omega)
        have o2:=ord_lt k hk (2*j+1) (by omega)
        go_wp2_with fail
        refine wp_gen (fun v=>RowAt v bv .i64 3 16 (colB (bwd s) k X j)∧Touch (fun x=>x=bv) v5 v) ⟨hV,hT⟩ ?_
        clear hV hT
        rintro v0 ⟨hV,hT⟩
        have HOR:Hid (∀ u,Below v0.heap.size v0 u→RowAt u (bo+k) .i64 3 16 (ordI k)):=Hid.mk (fun u hu=>(hord5.touch hT (by omega)).below hu (hord5.touch hT (by omega)).lt)
        have HM:Hid (∀ u,Below v0.heap.size v0 u→RowAt u bm .i64 3 16 (bwd s)):=Hid.mk (fun u hu=>(hM5.touch hT (by omega)).below hu (hM5.touch hT (by omega)).lt)
        refine wp_region_cut 25 rfl (by kernel_rfl) (any_region3 (Below v0.heap.size v0) v0.heap.size
         ([]:List (Nat×Cont))
         [kv (.slice (some ⟨bv,0,none⟩) 16 cv),kv (.int .i64 ((j:Nat):Int)),kv (.int .i64 ((j:Nat):Int)),kv (.int .i64 ((4+j:Nat):Int)),kv (.int .i64 ((j:Nat):Int)),kv (.int .i64 ((8+j:Nat):Int)),kv (.int .i64 ((j:Nat):Int)),kv (.int .i64 ((12+j:Nat):Int)),kv (.slice (some ⟨bm,0,none⟩) 16 cm),kv (.slice (some ⟨bo+k,0,none⟩) 16 16),kv (.int .i64 ((j:Nat):Int)),kv (.int .i64 ((2*(j):Nat):Int)),kv (.pointer (some ⟨bo+k,0+(2*(j)),none⟩)),kv (.int .i64 (((ord k (2*(j)):Nat):Int))),kv (.pointer (some ⟨bm,0+(ord k (2*(j))),none⟩)),kv (.int .i64 (bwd s (ord k (2*(j))))),kv (.slice (some ⟨bm,0,none⟩) 16 cm),kv (.slice (some ⟨bo+k,0,none⟩) 16 16),kv (.int .i64 ((j:Nat):Int)),kv (.int .i64 ((2*(j):Nat):Int)),kv (.int .i64 ((2*(j)+1:Nat):Int)),kv (.pointer (some ⟨bo+k,0+(2*(j)+1),none⟩)),kv (.int .i64 (((ord k (2*(j)+1):Nat):Int))),kv (.pointer (some ⟨bm,0+(ord k (2*(j)+1)),none⟩)),kv (.int .i64 (bwd s (ord k (2*(j)+1))))]
         [.none,.none,.none,.none,.none,.none,.none,.none,.none,.none,.none,.none,.none,.none,.none,.none,.none,.none,.none,.none,.none,.none,.none,.none,.none]
         [some 98,some 99,some 100,some 101,some 102,some 103,some 104,some 105,some 106,some 107,some 108,some 109,some 110,some 111,some 112,some 113,some 114,some 115,some 116,some 117,some 118,some 119,some 120,some 121,some 122]
         [(10,.slice (some ⟨bv,0,none⟩) 16 cv),(8,.slice (some ⟨bm,0,none⟩) 16 cm),(13,.slice (some ⟨bo+k,0,none⟩) 16 16),(14,.int .i64 ((j:Nat):Int))]
         [[],[],[],[.slot 2],[],[.slot 4],[],[.slot 6],[],[],[],[.slot 10],[.slot 9,.slot 11],[.slot 12],[.slot 8,.slot 13],[.slot 14],[],[],[],[.slot 18],[.slot 19],[.slot 17,.slot 20],[.slot 21],[.slot 16,.slot 22],[.slot 23]]
         [.slot 0,.slot 1,.slot 3,.slot 5,.slot 7,.slot 15,.slot 24] [98,99,100,101,102,103,104,105,106,107,108,109,110,111,112,113,114,115,116,117,118,119,120,121,122]
         (by kernel_rfl) ⟨rfl,rfl,rfl,rfl,trivial⟩ (Below.refl _ v0).drew (Nat.le_refl _) trivial trivial (below_G (Nat.le_refl _) trivial)
         ⟨
          (fun _ _ _ _ _ _ fr _=>sV (exec_move rfl fr.1)),
          (fun _ _ _ _ _ _ fr _=>sV (exec_move rfl fr.2.2.2.1)),
          (fun _ _ _ _ _ _ fr _=>sV (exec_move rfl fr.2.2.2.1)),
          (fun _ _ _ _ _ _ _ kn=>sV (exec_addN (m:=4) rfl rfl kn.1 (by omega))),
          (fun _ _ _ _ _ _ fr _=>sV (exec_move rfl fr.2.2.2.1)),
          (fun _ _ _ _ _ _ _ kn=>sV (exec_addN (m:=8) rfl rfl kn.1 (by omega))),
          (fun _ _ _ _ _ _ fr _=>sV (exec_move rfl fr.2.2.2.1)),
          (fun _ _ _ _ _ _ _ kn=>sV (exec_addN (m:=12) rfl rfl kn.1 (by omega))),
          (fun _ _ _ _ _ _ fr _=>sV (exec_move rfl fr.2.1)),
          (fun _ _ _ _ _ _ fr _=>sV (exec_move rfl fr.2.2.1)),
          (fun _ _ _ _ _ _ fr _=>sV (exec_move rfl fr.2.2.2.1)),
          (fun _ _ _ _ _ _ _ kn=>sV (exec_mulN (m:=2) rfl rfl kn.1 (by omega))),
          (fun _ _ _ _ _ _ _ kn=>sV (exec_idx rfl Tryz.underlying171 size_int kn.1 kn.2.1 (by omega))),
          (fun _ _ ww _ hS _ _ kn=>sV (exec_ld rfl kn.1 (load_int (cell0 (HOR.out ww hS) (by omega))))),
          (fun _ _ _ _ _ _ _ kn=>sV (exec_idx rfl Tryz.underlying171 size_int kn.1 kn.2.1 (by omega))),
          (fun _ _ ww _ hS _ _ kn=>sV (exec_ld rfl kn.1 (load_int (cell0 (HM.out ww hS) (by omega))))),
          (fun _ _ _ _ _ _ fr _=>sV (exec_move rfl fr.2.1)),
          (fun _ _ _ _ _ _ fr _=>sV (exec_move rfl fr.2.2.1)),
          (fun _ _ _ _ _ _ fr _=>sV (exec_move rfl fr.2.2.2.1)),
          (fun _ _ _ _ _ _ _ kn=>sV (exec_mulN (m:=2) rfl rfl kn.1 (by omega))),
          (fun _ _ _ _ _ _ _ kn=>sV (exec_addN (n:=1) rfl kn.1 rfl (by omega))),
          (fun _ _ _ _ _ _ _ kn=>sV (exec_idx rfl Tryz.underlying171 size_int kn.1 kn.2.1 (by omega))),
          (fun _ _ ww _ hS _ _ kn=>sV (exec_ld rfl kn.1 (load_int (cell0 (HOR.out ww hS) (by omega))))),
          (fun _ _ _ _ _ _ _ kn=>sV (exec_idx rfl Tryz.underlying171 size_int kn.1 kn.2.1 (by omega))),
          (fun _ _ ww _ hS _ _ kn=>sV (exec_ld rfl kn.1 (load_int (cell0 (HM.out ww hS) (by omega))))),
          trivial⟩ ?_)
        intro vs own v6 hB6 hs6 kn inj
        clear inj hs6
        have e98:vs 98=_:=kn.1
        have e99:vs 99=_:=kn.2.1
        have e101:vs 101=_:=kn.2.2.1
        have e103:vs 103=_:=kn.2.2.2.1
        have e105:vs 105=_:=kn.2.2.2.2.1
        have e113:vs 113=_:=kn.2.2.2.2.2.1
        have e122:vs 122=_:=kn.2.2.2.2.2.2.1
        clear kn HOR HM
        replace hV:=hV.below hB6 hV.lt
        replace hT:=hT.trans (touch_mono_false (touch_below hB6))
        clear hB6
        show wpList Tryz.prog _ _ (_::[]) _ _
        simp only[putAll,Act.put,List.setIfInBounds_toArray,List.set_cons_zero,List.set_cons_succ,e98,e99,e101,e103,e105,e113,e122]
        go_wp2_with fail
        refine (rmix_run bv 16 cv _ j (4+j) (8+j) (12+j) (bwd s (ord k (2*j))) (bwd s (ord k (2*j+1))) _ hV hWV (by omega) (by omega) (by omega) (by omega) (bwd_w HSB.out (by omega)) (bwd_w HSB.out (by omega))).mono ?_
        rintro e v7 ⟨rfl,hV7,hW7,hT7⟩
        replace hT:=hT.trans hT7
        clear hT7 hV hWV
        go_wp2_with fail
        go_roundg (4-(j+1))
        case rel=>exact ⟨j+1,Hid.mk (by omega),by go_num,hV7,Hid.mk hW7,hT⟩
        case measure=>have:=HJ.out;omega
       ·have hj2:j=4:=by omega
        subst hj2
        clear hj hj4 HJ
        generalize colB (bwd s) k X 4=Y at *
        go_wp2_with fail
        rw[show ((4:Nat):Int)=4 from rfl]
        generalize wr=wo2 at *
        go_loopg [15] 4 (fun gm iv v=>∃ j:Nat,Hid (gm+j=4)∧iv=.int .i64 (j:Int)∧RowAt v bv .i64 3 16 (diaB (bwd s) k Y j)∧Hid (∀ i,i<16→W32 (diaB (bwd s) k Y j i))∧Touch (fun x=>x=bv) v5 v)
        case atStart=>exact ⟨0,Hid.mk rfl,rfl,hV,HW,hT⟩
        case round =>
         clear hV HW hT
         obtain ⟨j,HJ,rfl,hV,HW,hT⟩:=hrel
         have hj4:j≤4:=by have:=HJ.out;omega
         by_cases hj:j<4
         ·have hWV:=HW.out
          clear HW
          have o1:=ord_lt k hk (8+2*j) (by omega)
          have o2:=ord_lt k hk (9+2*j) (by omega)
          go_wp2_with fail
          refine wp_gen (fun v=>RowAt v bv .i64 3 16 (diaB (bwd s) k Y j)∧Touch (fun x=>x=bv) v5 v) ⟨hV,hT⟩ ?_
          clear hV hT
          rintro v0 ⟨hV,hT⟩
          have HOR:Hid (∀ u,Below v0.heap.size v0 u→RowAt u (bo+k) .i64 3 16 (ordI k)):=Hid.mk (fun u hu=>(hord5.touch hT (by omega)).below hu (hord5.touch hT (by omega)).lt)
          have HM:Hid (∀ u,Below v0.heap.size v0 u→RowAt u bm .i64 3 16 (bwd s)):=Hid.mk (fun u hu=>(hM5.touch hT (by omega)).below hu (hM5.touch hT (by omega)).lt)
          refine wp_region_cut 32 rfl (by kernel_rfl) (any_region3 (Below v0.heap.size v0) v0.heap.size
           ([]:List (Nat×Cont))
           (kv (.slice (some ⟨bv,0,none⟩) 16 cv)::kv (.int .i64 ((j:Nat):Int))::kv (.int .i64 ((j:Nat):Int))::kv (.int .i64 ((j+1:Nat):Int))::kv (.int .i64 (((j+1)%4:Nat):Int))::kv (.int .i64 ((4+(j+1)%4:Nat):Int))::kv (.int .i64 ((j:Nat):Int))::kv (.int .i64 ((j+2:Nat):Int))::kv (.int .i64 (((j+2)%4:Nat):Int))::kv (.int .i64 ((8+(j+2)%4:Nat):Int))::kv (.int .i64 ((j:Nat):Int))::kv (.int .i64 ((j+3:Nat):Int))::kv (.int .i64 (((j+3)%4:Nat):Int))::kv (.int .i64 ((12+(j+3)%4:Nat):Int))::kv (.slice (some ⟨bm,0,none⟩) 16 cm)::kv (.slice (some ⟨bo+k,0,none⟩) 16 16)::kv (.int .i64 ((j:Nat):Int))::kv (.int .i64 ((2*(j):Nat):Int))::kv (.int .i64 ((8+2*(j):Nat):Int))::kv (.pointer (some ⟨bo+k,0+(8+2*(j)),none⟩))::kv (.int .i64 (((ord k (8+2*(j)):Nat):Int)))::kv (.pointer (some ⟨bm,0+(ord k (8+2*(j))),none⟩))::kv (.int .i64 (bwd s (ord k (8+2*(j)))))::kv (.slice (some ⟨bm,0,none⟩) 16 cm)::kv (.slice (some ⟨bo+k,0,none⟩) 16 16)::kv (.int .i64 ((j:Nat):Int))::kv (.int .i64 ((2*(j):Nat):Int))::kv (.int .i64 ((9+2*(j):Nat):Int))::kv (.pointer (some ⟨bo+k,0+(9+2*(j)),none⟩))::kv (.int .i64 (((ord k (9+2*(j)):Nat):Int)))::kv (.pointer (some ⟨bm,0+(ord k (9+2*(j))),none⟩))::kv (.int .i64 (bwd s (ord k (9+2*(j)))))::[])
           (.none::.none::.none::.none::.none::.none::.none::.none::.none::.none::.none::.none::.none::.none::.none::.none::.none::.none::.none::.none::.none::.none::.none::.none::.none::.none::.none::.none::.none::.none::.none::.none::[])
           (some 128::some 129::some 130::some 131::some 132::some 133::some 134::some 135::some 136::some 137::some 138::some 139::some 140::some 141::some 142::some 143::some 144::some 145::some 146::some 147::some 148::some 149::some 150::some 151::some 152::some 153::some 154::some 155::some 156::some 157::some 158::some 159::[])
           [(10,.slice (some ⟨bv,0,none⟩) 16 cv),(8,.slice (some ⟨bm,0,none⟩) 16 cm),(13,.slice (some ⟨bo+k,0,none⟩) 16 16),(15,.int .i64 ((j:Nat):Int))]
           ([]::[]::[]::[.slot 2]::[.slot 3]::[.slot 4]::[]::[.slot 6]::[.slot 7]::[.slot 8]::[]::[.slot 10]::[.slot 11]::[.slot 12]::[]::[]::[]::[.slot 16]::[.slot 17]::[.slot 15,.slot 18]::[.slot 19]::[.slot 14,.slot 20]::[.slot 21]::[]::[]::[]::[.slot 25]::[.slot 26]::[.slot 24,.slot 27]::[.slot 28]::[.slot 23,.slot 29]::[.slot 30]::[])
           [.slot 0,.slot 1,.slot 5,.slot 9,.slot 13,.slot 22,.slot 31] (128::129::130::131::132::133::134::135::136::137::138::139::140::141::142::143::144::145::146::147::148::149::150::151::152::153::154::155::156::157::158::159::[])
           (by kernel_rfl) ⟨rfl,rfl,rfl,rfl,trivial⟩ (Below.refl _ v0).drew (Nat.le_refl _) trivial trivial (below_G (Nat.le_refl _) trivial)
           ⟨
            (fun _ _ _ _ _ _ fr _=>sV (exec_move rfl fr.1)),
            (fun _ _ _ _ _ _ fr _=>sV (exec_move rfl fr.2.2.2.1)),
            (fun _ _ _ _ _ _ fr _=>sV (exec_move rfl fr.2.2.2.1)),
            (fun _ _ _ _ _ _ _ kn=>sV (exec_addN (n:=1) rfl kn.1 rfl (by omega))),
            (fun _ _ _ _ _ _ _ kn=>sV (exec_remN (n:=4) rfl kn.1 rfl (by omega))),
            (fun _ _ _ _ _ _ _ kn=>sV (exec_addN (m:=4) rfl rfl kn.1 (by omega))),
            (fun _ _ _ _ _ _ fr _=>sV (exec_move rfl fr.2.2.2.1)),
            (fun _ _ _ _ _ _ _ kn=>sV (exec_addN (n:=2) rfl kn.1 rfl (by omega))),
            (fun _ _ _ _ _ _ _ kn=>sV (exec_remN (n:=4) rfl kn.1 rfl (by omega))),
            (fun _ _ _ _ _ _ _ kn=>sV (exec_addN (m:=8) rfl rfl kn.1 (by omega))),
            (fun _ _ _ _ _ _ fr _=>sV (exec_move rfl fr.2.2.2.1)),
            (fun _ _ _ _ _ _ _ kn=>sV (exec_addN (n:=3) rfl kn.1 rfl (by omega))),
            (fun _ _ _ _ _ _ _ kn=>sV (exec_remN (n:=4) rfl kn.1 rfl (by omega))),
            (fun _ _ _ _ _ _ _ kn=>sV (exec_addN (m:=12) rfl rfl kn.1 (by omega))),
            (fun _ _ _ _ _ _ fr _=>sV (exec_move rfl fr.2.1)),
            (fun _ _ _ _ _ _ fr _=>sV (exec_move rfl fr.2.2.1)),
            (fun _ _ _ _ _ _ fr _=>sV (exec_move rfl fr.2.2.2.1)),
            (fun _ _ _ _ _ _ _ kn=>sV (exec_mulN (m:=2) rfl rfl kn.1 (by omega))),
            (fun _ _ _ _ _ _ _ kn=>sV (exec_addN (m:=8) rfl rfl kn.1 (by omega))),
            (fun _ _ _ _ _ _ _ kn=>sV (exec_idx rfl Tryz.underlying171 size_int kn.1 kn.2.1 (by omega))),
            (fun _ _ ww _ hS _ _ kn=>sV (exec_ld rfl kn.1 (load_int (cell0 (HOR.out ww hS) (by omega))))),
            (fun _ _ _ _ _ _ _ kn=>sV (exec_idx rfl Tryz.underlying171 size_int kn.1 kn.2.1 (by omega))),
            (fun _ _ ww _ hS _ _ kn=>sV (exec_ld rfl kn.1 (load_int (cell0 (HM.out ww hS) (by omega))))),
            (fun _ _ _ _ _ _ fr _=>sV (exec_move rfl fr.2.1)),
            (fun _ _ _ _ _ _ fr _=>sV (exec_move rfl fr.2.2.1)),
            (fun _ _ _ _ _ _ fr _=>sV (exec_move rfl fr.2.2.2.1)),
            (fun _ _ _ _ _ _ _ kn=>sV (exec_mulN (m:=2) rfl rfl kn.1 (by omega))),
            (fun _ _ _ _ _ _ _ kn=>sV (exec_addN (m:=9) rfl rfl kn.1 (by omega))),
            (fun _ _ _ _ _ _ _ kn=>sV (exec_idx rfl Tryz.underlying171 size_int kn.1 kn.2.1 (by omega))),
            (fun _ _ ww _ hS _ _ kn=>sV (exec_ld rfl kn.1 (load_int (cell0 (HOR.out ww hS) (by omega))))),
            (fun _ _ _ _ _ _ _ kn=>sV (exec_idx rfl Tryz.underlying171 size_int kn.1 kn.2.1 (by omega))),
            (fun _ _ ww _ hS _ _ kn=>sV (exec_ld rfl kn.1 (load_int (cell0 (HM.out ww hS) (by omega))))),
            trivial⟩ ?_)
          intro vs own v6 hB6 hs6 kn inj
          clear inj hs6
          have e128:vs 128=_:=kn.1
          have e129:vs 129=_:=kn.2.1
          have e133:vs 133=_:=kn.2.2.1
          have e137:vs 137=_:=kn.2.2.2.1
          have e141:vs 141=_:=kn.2.2.2.2.1
          have e150:vs 150=_:=kn.2.2.2.2.2.1
          have e159:vs 159=_:=kn.2.2.2.2.2.2.1
          clear kn HOR HM
          replace hV:=hV.below hB6 hV.lt
          replace hT:=hT.trans (touch_mono_false (touch_below hB6))
          clear hB6
          show wpList Tryz.prog _ _ (_::[]) _ _
          simp only[putAll,Act.put,List.setIfInBounds_toArray,List.set_cons_zero,List.set_cons_succ,e128,e129,e133,e137,e141,e150,e159]
          go_wp2_with fail
          refine (rmix_run bv 16 cv _ j (4+(j+1)%4) (8+(j+2)%4) (12+(j+3)%4) (bwd s (ord k (8+2*j))) (bwd s (ord k (9+2*j))) _ hV hWV (by omega) (by omega) (by omega) (by omega) (bwd_w HSB.out (by omega)) (bwd_w HSB.out (by omega))).mono ?_
          rintro e v7 ⟨rfl,hV7,hW7,hT7⟩
          replace hT:=hT.trans hT7
          clear hT7 hV hWV
          go_wp2_with fail
          go_roundg (4-(j+1))
          case rel=>exact ⟨j+1,Hid.mk (by omega),by go_num,hV7,Hid.mk hW7,hT⟩
          case measure=>have:=HJ.out;omega
         ·have hj2:j=4:=by omega
          subst hj2
          clear hj hj4 HJ
          rw[HN.out] at hV HW
          go_wp2_with fail
          go_roundg (10-(k+1))
          case rel=>exact ⟨k+1,Hid.mk (by omega),by go_num,hV,HW,hT⟩
          case measure=>have:=HK.out;omega
     ·have hk2:k=10:=by omega
      subst hk2
      have HTF:Hid (∀ q,takeF h s t false q=xorw (xorw (h q) (tenB (bwd s) (begV h t false) 10 q)) (tenB (bwd s) (begV h t false) 10 (q+8))):=Hid.mk (fun _=>rfl)
      generalize tenB (bwd s) (begV h t false) 10=vt at *
      have hHr:=hH5.touch hT (by omega)
      have hTw:Touch (fun x=>x=bh) w wr:=touch_mono_false ⟨hT.os.trans hB5.os,hT.tape.trans hB5.tape,hT.output.trans hB5.output,Nat.le_trans hB5.size hT.size,fun q hq _=>(hT.block q (Nat.lt_of_lt_of_le hq hB5.size) (by omega)).trans (hB5.block q hq)⟩
      clear hT hk hk10 HK
      go_wp2_with fail
      rw[show ((10:Nat):Int)=10 from rfl]
      generalize wr=wo3 at *
      go_loopg [16] 8 (fun gm iv v=>∃ j:Nat,Hid (gm+j=8)∧iv=.int .i64 (j:Int)∧RowAt v bh .i64 3 8 (fun q=>if q<j then takeF h s t false q else h q)∧RowAt v bv .i64 3 16 vt∧Touch (fun x=>x=bh) w v)
      case atStart=>exact ⟨0,Hid.mk rfl,rfl,hHr.mono (Nat.le_refl _) (fun q _=>by rw[if_neg (by omega)]),hV,hTw⟩
      case round =>
       clear hHr hV hTw
       obtain ⟨j,HJ,rfl,hHj,hV,hT⟩:=hrel
       have hj8:j≤8:=by have:=HJ.out;omega
       by_cases hj:j<8
       ·have HW1:Hid (W32 (if j<j then takeF h s t false j else h j)):=Hid.mk (by rw[if_neg (by omega)];exact hh j hj)
        have HNX:Hid (∀ q,q<8→upd (fun q=>if q<j then takeF h s t false q else h q) j (xorw (xorw (if j<j then takeF h s t false j else h j) (vt j)) (vt (j+8))) q=(fun q=>if q<j+1 then takeF h s t false q else h q) q):=Hid.mk (fun q _=>by
         unfold upd
         by_cases e:q=j
         ·subst e
          show (if q=q then _ else _)=(if q<q+1 then takeF h s t false q else h q)
          rw[if_pos rfl,if_neg (by omega),if_pos (by omega),HTF.out]
         ·show (if q=j then _ else _)=(if q<j+1 then takeF h s t false q else h q)
          rw[if_neg e]
          show (if q<j then takeF h s t false q else h q)=_
          by_cases h2:q<j
          ·rw[if_pos h2,if_pos (by omega)]
          ·rw[if_neg h2,if_neg (by omega)])
        have HWT:=HW
        generalize hhc:(fun q=>if q<j then takeF h s t false q else h q)=hc at *
        replace HW1:Hid (W32 (hc j)):=by rw[← hhc];exact HW1
        replace HNX:Hid (∀ q,q<8→upd hc j (xorw (xorw (hc j) (vt j)) (vt (j+8))) q=(fun q=>if q<j+1 then takeF h s t false q else h q) q):=by rw[← hhc];rw[← hhc] at HNX;exact HNX
        clear hhc
        go_wp2_with fail
        refine wp_gen (fun v=>RowAt v bh .i64 3 8 hc∧RowAt v bv .i64 3 16 vt∧Touch (fun x=>x=bh) w v) ⟨hHj,hV,hT⟩ ?_
        clear hHj hV hT
        rintro v0 ⟨hHj,hV,hT⟩
        have HH:Hid (∀ u,Below v0.heap.size v0 u→RowAt u bh .i64 3 8 hc):=Hid.mk (fun u hu=>hHj.below hu hHj.lt)
        have HV:Hid (∀ u,Below v0.heap.size v0 u→RowAt u bv .i64 3 16 vt):=Hid.mk (fun u hu=>hV.below hu hV.lt)
        refine wp_region_cut 18 rfl (by kernel_rfl) (any_region3 (Below v0.heap.size v0) v0.heap.size
         ([]:List (Nat×Cont))
         [kv (.slice (some ⟨bh,0,none⟩) 8 ch),kv (.int .i64 ((j:Nat):Int)),kv (.slice (some ⟨bh,0,none⟩) 8 ch),kv (.int .i64 ((j:Nat):Int)),kv (.pointer (some ⟨bh,0+(j),none⟩)),kv (.int .i64 (hc j)),kv (.slice (some ⟨bv,0,none⟩) 16 cv),kv (.int .i64 ((j:Nat):Int)),kv (.pointer (some ⟨bv,0+(j),none⟩)),kv (.int .i64 (vt j)),kv (.int .i64 (xorw (hc j) (vt j))),kv (.slice (some ⟨bv,0,none⟩) 16 cv),kv (.int .i64 ((j:Nat):Int)),kv (.int .i64 ((j+8:Nat):Int)),kv (.pointer (some ⟨bv,0+(j+8),none⟩)),kv (.int .i64 (vt (j+8))),kv (.int .i64 (xorw (xorw (hc j) (vt j)) (vt (j+8)))),kv (.pointer (some ⟨bh,0+(j),none⟩))]
         [.none,.none,.none,.none,.none,.none,.none,.none,.none,.none,.none,.none,.none,.none,.none,.none,.none,.none]
         [some 165,some 166,some 167,some 168,some 169,some 170,some 171,some 172,some 173,some 174,some 175,some 176,some 177,some 178,some 179,some 180,some 181,some 182]
         [(0,.slice (some ⟨bh,0,none⟩) 8 ch),(16,.int .i64 ((j:Nat):Int)),(10,.slice (some ⟨bv,0,none⟩) 16 cv)]
         [[],[],[],[],[.slot 2,.slot 3],[.slot 4],[],[],[.slot 6,.slot 7],[.slot 8],[.slot 5,.slot 9],[],[],[.slot 12],[.slot 11,.slot 13],[.slot 14],[.slot 10,.slot 15],[.slot 0,.slot 1]]
         [.slot 16,.slot 17] [165,166,167,168,169,170,171,172,173,174,175,176,177,178,179,180,181,182]
         (by kernel_rfl) ⟨rfl,rfl,rfl,trivial⟩ (Below.refl _ v0).drew (Nat.le_refl _) trivial trivial (below_G (Nat.le_refl _) trivial)
         ⟨
          (fun _ _ _ _ _ _ fr _=>sV (exec_move rfl fr.1)),
          (fun _ _ _ _ _ _ fr _=>sV (exec_move rfl fr.2.1)),
          (fun _ _ _ _ _ _ fr _=>sV (exec_move rfl fr.1)),
          (fun _ _ _ _ _ _ fr _=>sV (exec_move rfl fr.2.1)),
          (fun _ _ _ _ _ _ _ kn=>sV (exec_idx rfl Tryz.underlying171 size_int kn.1 kn.2.1 (by omega))),
          (fun _ _ ww _ hS _ _ kn=>sV (exec_ld rfl kn.1 (load_int (cell0 (HH.out ww hS) (by omega))))),
          (fun _ _ _ _ _ _ fr _=>sV (exec_move rfl fr.2.2.1)),
          (fun _ _ _ _ _ _ fr _=>sV (exec_move rfl fr.2.1)),
          (fun _ _ _ _ _ _ _ kn=>sV (exec_idx rfl Tryz.underlying171 size_int kn.1 kn.2.1 (by omega))),
          (fun _ _ ww _ hS _ _ kn=>sV (exec_ld rfl kn.1 (load_int (cell0 (HV.out ww hS) (by omega))))),
          (fun _ _ _ _ _ _ _ kn=>sV (exec_xor rfl kn.1 kn.2.1 HW1.out (HWT.out j (by omega)))),
          (fun _ _ _ _ _ _ fr _=>sV (exec_move rfl fr.2.2.1)),
          (fun _ _ _ _ _ _ fr _=>sV (exec_move rfl fr.2.1)),
          (fun _ _ _ _ _ _ _ kn=>sV (exec_addN (n:=8) rfl kn.1 rfl (by omega))),
          (fun _ _ _ _ _ _ _ kn=>sV (exec_idx rfl Tryz.underlying171 size_int kn.1 kn.2.1 (by omega))),
          (fun _ _ ww _ hS _ _ kn=>sV (exec_ld rfl kn.1 (load_int (cell0 (HV.out ww hS) (by omega))))),
          (fun _ _ _ _ _ _ _ kn=>sV (exec_xor rfl kn.1 kn.2.1 (xorw_w HW1.out (HWT.out j (by omega))) (HWT.out (j+8) (by omega)))),
          (fun _ _ _ _ _ _ _ kn=>sV (exec_idx rfl Tryz.underlying171 size_int kn.1 kn.2.1 (by omega))),
          trivial⟩ ?_)
        intro vs own v6 hB6 hs6 kn inj
        clear inj hs6
        have e181:vs 181=_:=kn.1
        have e182:vs 182=_:=kn.2.1
        rw[Nat.zero_add] at e182
        clear kn
        have hH6:=HH.out _ hB6
        have hV6:=HV.out _ hB6
        replace hT:=hT.trans (touch_mono_false (touch_below hB6))
        clear hB6 HH HV hHj hV
        have c0:=hH6.cell j hj
        have f0:=hH6.free j hj
        have hHn:=Hid.mk ((hH6.set j (xorw (xorw (hc j) (vt j)) (vt (j+8)))).mono (Nat.le_refl _) HNX.out)
        have hVn:=Hid.mk (hV6.only (only_set (w:=v6) (g:=bh) (i:=j) (v:=.int .i64 (xorw (xorw (hc j) (vt j)) (vt (j+8))))) (by omega))
        have hTn:=Hid.mk (hT.trans (touch_only (only_set (w:=v6) (g:=bh) (i:=j) (v:=.int .i64 (xorw (xorw (hc j) (vt j)) (vt (j+8)))))))
        generalize xorw (xorw (hc j) (vt j)) (vt (j+8))=yy at *
        show wpList Tryz.prog _ _ (_::[]) _ _
        simp only[putAll,Act.put,List.setIfInBounds_toArray,List.set_cons_zero,List.set_cons_succ,e181,e182]
        go_wp2_with fail
        go_roundg (8-(j+1))
        case rel=>exact ⟨j+1,Hid.mk (by omega),by go_num,hHn.out,hVn.out,hTn.out⟩
        case measure=>have:=HJ.out;omega
       ·have hj2:j=8:=by omega
        subst hj2
        replace hHj:=hHj.mono (Nat.le_refl _) (s':=takeF h s t false) (fun q hq=>by rw[if_pos hq])
        go_wp2_with fail
        go_end0
        exact ⟨rfl,hHj,fun q hq=>by rw[HTF.out];exact xorw_w (xorw_w (hh q hq) (HW.out q (by omega))) (HW.out (q+8) (by omega)),hT⟩
   | true =>
    have HR:Hid (∀ j,j<8→(wr.alloc (.cells #[] 3)).cell? ⟨bh,0+j,none⟩=some (.int .i64 (h j))):=Hid.mk (fun j hj=>by rw[Nat.zero_add];exact ((hH.below hB hH.lt).alloc _).cell j hj)
    go_wp2_with (at_builtin;refine ap_full rfl _ _ 171 3 .i64 8 Tryz.underlying171 infoInt (by decide) (by rfl) (n:=0) (m:=8) (f:=h) (by rfl) (fun j hj=>by omega) (by rfl) (r:=h) HR.out (by decide) (by decide) ?_;intro va v1 h1 hb1;refine Hid.out ?_)
    clear HR
    rw[nums_congr (cat_zero8 h h)] at h1
    have hz1:wr.heap.size+1≤v1.heap.size:=by have:=hb1.size;simpa using this
    replace h1:v1.ownsRow (wr.heap.size+1) 3 1 va 8 (nums .i64 8 h):=by simpa using h1
    have hb1':Below wr.heap.size wr v1:=((Below.refl _ wr).alloc (Nat.le_refl _) _).trans (hb1.mono (by simp))
    clear hb1
    refine Hid.mk ?_
    go_wp2_with fail
    refine (begin_run _).mono ?_
    rintro e v2 ⟨rfl,gB,hb2⟩
    replace h1:=own_kept h1 hb2
    have HZ2:Hid (wr.heap.size+1≤v2.heap.size):=Hid.mk (by have:=hb2.size;omega)
    have hb2':Below wr.heap.size wr v2:=hb1'.trans (hb2.mono (by omega))
    clear hb2 hb1'
    go_wp2_with (at_builtin;refine ap_own rfl _ _ 171 3 .i64 8 Tryz.underlying171 infoInt (by decide) (by rfl) (n:=8) (m:=8) (by rfl) h1 (by rfl) (r:=bgn) (fun j hj=>by rw[Nat.zero_add];exact gB.cell j hj) (by decide) HZ2.out ?_;intro vb v3 h3 hb3;refine Hid.out ?_)
    have hb3':Below wr.heap.size wr v3:=hb2'.trans (hb3.mono (by omega))
    clear hb3 hb2' gB h1 HZ2
    obtain ⟨bv,cv,rfl,hbv,hcv,hV⟩:=own_row h3 (by decide)
    clear h3
    have W0:∀ i,i<16→W32 (cat 8 h bgn i):=fun i hi=>by
     unfold cat
     split
     ·exact hh i (by omega)
     ·exact bgn_w _
    have HQ0:Hid (∀ q,q<16→cat 8 h bgn q=if q<8 then h q else bgn (q-8)):=Hid.mk (fun q _=>rfl)
    replace hV:RowAt v3 bv .i64 3 16 (cat 8 h bgn):=hV
    generalize cat 8 h bgn=V0 at *
    have hbv':wr.heap.size<bv:=by omega
    clear hbv
    have hMv:=hM.below hb3' hM.lt
    have hHv:=(hH.below hB hH.lt).below hb3' (Nat.lt_of_lt_of_le hH.lt hB.size)
    have hB3:=hB.trans (hb3'.mono hB.size)
    have hzz:bm<wr.heap.size:=hM.lt
    have hzh:bh<w.heap.size:=hH.lt
    have hzw:=hB.size
    clear hM hb3' hB
    have e1:t.tmod 4294967296=t%4294967296:=Int.tmod_eq_emod_of_nonneg ht.1
    have e2:t.tdiv 4294967296=t/4294967296:=Int.tdiv_eq_ediv_of_nonneg ht.1
    have T1:W32 (t%4294967296):=by unfold W32;omega
    have T2:W32 (t/4294967296):=by unfold W32;omega
    have c12:=hV.cell 12 (by omega)
    have f12:=hV.free 12 (by omega)
    have x12:bits .xor .i64 (V0 12) (t%4294967296)=xorw (V0 12) (t%4294967296):=i64_xor (W0 12 (by omega)) T1
    have hV1:=hV.set 12 (xorw (V0 12) (t%4294967296))
    have o12:Only bv v3 _:=only_set (w:=v3) (g:=bv) (i:=12) (v:=.int .i64 (xorw (V0 12) (t%4294967296)))
    have W1:∀ i,i<16→W32 (upd V0 12 (xorw (V0 12) (t%4294967296)) i):=w32_upd W0 (xorw_w (W0 12 (by omega)) T1)
    obtain ⟨V1,hV1e⟩:∃ V1,V1=upd V0 12 (xorw (V0 12) (t%4294967296)):=⟨_,rfl⟩
    rw[← hV1e] at hV1 W1
    have c13:=hV1.cell 13 (by omega)
    have f13:=hV1.free 13 (by omega)
    have x13:bits .xor .i64 (V1 13) (t/4294967296)=xorw (V1 13) (t/4294967296):=i64_xor (W1 13 (by omega)) T2
    have hV2:=hV1.set 13 (xorw (V1 13) (t/4294967296))
    have o13:Only bv _ _:=only_set (w:=(v3.setCell ⟨bv,12,none⟩ (.int .i64 (xorw (V0 12) (t%4294967296))))) (g:=bv) (i:=13) (v:=.int .i64 (xorw (V1 13) (t/4294967296)))
    have W2:∀ i,i<16→W32 (upd V1 13 (xorw (V1 13) (t/4294967296)) i):=w32_upd W1 (xorw_w (W1 13 (by omega)) T2)
    obtain ⟨V2,hV2e⟩:∃ V2,V2=upd V1 13 (xorw (V1 13) (t/4294967296)):=⟨_,rfl⟩
    rw[← hV2e] at hV2 W2
    have TT:=(touch_only o12).trans (touch_only o13)
    have HV1e:=Hid.mk hV1e
    have HV2e:=Hid.mk hV2e
    clear hV1e hV2e o12 o13 hV hV1
    have HB2:=Hid.mk (begV_false h V0 t HQ0.out)
    replace hV2:=hV2.mono (Nat.le_refl _) (s':=begV h t false) (fun i hi=>by rw[HV2e.out,HV1e.out];exact HB2.out i hi)
    replace W2:∀ i,i<16→W32 (begV h t false i):=fun i hi=>by rw[← HB2.out i hi,← HV1e.out,← HV2e.out];exact W2 i hi
    clear HV2e HB2
    have c14:=hV2.cell 14 (by omega)
    have f14:=hV2.free 14 (by omega)
    have x14:bits .xor .i64 (begV h t false 14) 4294967295=xorw (begV h t false 14) 4294967295:=i64_xor (W2 14 (by omega)) (by unfold W32;omega)
    have hV3:=(hV2.set 14 (xorw (begV h t false 14) 4294967295)).mono (Nat.le_refl _) (s':=begV h t true) (begV_true h _ t (fun _ _=>rfl))
    have W3:∀ i,i<16→W32 (begV h t true i):=fun i hi=>by
     rw[← begV_true h _ t (fun _ _=>rfl) i hi]
     exact w32_upd W2 (xorw_w (W2 14 (by omega)) (by unfold W32;omega)) i hi
    have o14:Only bv _ _:=only_set (w:=((v3.setCell ⟨bv,12,none⟩ (.int .i64 (xorw (V0 12) (t%4294967296)))).setCell ⟨bv,13,none⟩ (.int .i64 (xorw (V1 13) (t/4294967296))))) (g:=bv) (i:=14) (v:=.int .i64 (xorw (begV h t false 14) 4294967295))
    replace TT:=TT.trans (touch_only o14)
    clear o14
    refine Hid.mk ?_
    go_wp2_with fail
    refine (orders_run' _).mono ?_
    rintro e v5 ⟨bo,rfl,hbo,hord,hb5⟩
    replace hbo:v3.heap.size≤bo:=by simpa using hbo
    have hV5:RowAt v5 bv .i64 3 16 (begV h t true):=hV3.below hb5 hV3.lt
    have hM5:RowAt v5 bm .i64 3 16 (bwd s):=(hMv.touch TT (by omega)).below hb5 (hMv.touch TT (by omega)).lt
    have hH5:RowAt v5 bh .i64 3 8 h:=(hHv.touch TT (by omega)).below hb5 (hHv.touch TT (by omega)).lt
    have hlv:bv<bo:=by have:=hV3.lt;simp at this;omega
    have hB5:Below w.heap.size w v5:=(hB3.trans (below_touch TT (by omega) hB3.size)).trans (hb5.mono (by simp;exact hB3.size))
    clear hV2 hMv hHv hB3 hb5 TT c12 c13 f12 f13 x12 x13 e1 e2 T1 T2 W0 W1 HQ0 HV1e c14 f14 x14 hV3
    have WV0:Hid (∀ i,i<16→W32 (begV h t true i)):=Hid.mk W3
    clear W2 W3
    go_wp2_with fail
    generalize wr=wo at *
    go_loopg [12] 10 (fun gm iv v=>∃ k:Nat,Hid (gm+k=10)∧iv=.int .i64 (k:Int)∧RowAt v bv .i64 3 16 (tenB (bwd s) (begV h t true) k)∧Hid (∀ i,i<16→W32 (tenB (bwd s) (begV h t true) k i))∧Touch (fun x=>x=bv) v5 v)
    case atStart=>exact ⟨0,Hid.mk rfl,rfl,hV5,WV0,Touch.refl _ _⟩
    case round =>
     obtain ⟨k,HK,rfl,hV,HW,hT⟩:=hrel
     have hk10:k≤10:=by have:=HK.out;omega
     by_cases hk:k<10
     ·have hcell:wr.cell? ⟨bo+10,k,none⟩=some (.slice (some ⟨bo+k,0,none⟩) 16 16):=by
       rw[← (hord k hk).1]
       exact World.cell?_of_block (hT.block (bo+10) (World.block_lt_of_cell? _ _ (hord k hk).1) (by omega))
      have hord5:RowAt v5 (bo+k) .i64 3 16 (ordI k):=(hord k hk).2.row
      have HN:Hid (diaB (bwd s) k (colB (bwd s) k (tenB (bwd s) (begV h t true) k) 4) 4=tenB (bwd s) (begV h t true) (k+1)):=Hid.mk rfl
      generalize tenB (bwd s) (begV h t true) k=X at *
      have hd:decide ((k:Int)<10)=true:=by simp;omega
      go_wp2_with fail
      generalize wr=wo1 at *
      clear hcell
      go_loopg [14] 4 (fun gm iv v=>∃ j:Nat,Hid (gm+j=4)∧iv=.int .i64 (j:Int)∧RowAt v bv .i64 3 16 (colB (bwd s) k X j)∧Hid (∀ i,i<16→W32 (colB (bwd s) k X j i))∧Touch (fun x=>x=bv) v5 v)
      case atStart=>exact ⟨0,Hid.mk rfl,rfl,hV,HW,hT⟩
      case round =>
       clear hV HW hT
       obtain ⟨j,HJ,rfl,hV,HW,hT⟩:=hrel
       have hj4:j≤4:=by have:=HJ.out;omega
       by_cases hj:j<4
       ·have hWV:=HW.out
        clear HW
        have o1:=ord_lt k hk (2*j) (by omega)
        have o2:=ord_lt k hk (2*j+1) (by omega)
        go_wp2_with fail
        refine wp_gen (fun v=>RowAt v bv .i64 3 16 (colB (bwd s) k X j)∧Touch (fun x=>x=bv) v5 v) ⟨hV,hT⟩ ?_
        clear hV hT
        rintro v0 ⟨hV,hT⟩
        have HOR:Hid (∀ u,Below v0.heap.size v0 u→RowAt u (bo+k) .i64 3 16 (ordI k)):=Hid.mk (fun u hu=>(hord5.touch hT (by omega)).below hu (hord5.touch hT (by omega)).lt)
        have HM:Hid (∀ u,Below v0.heap.size v0 u→RowAt u bm .i64 3 16 (bwd s)):=Hid.mk (fun u hu=>(hM5.touch hT (by omega)).below hu (hM5.touch hT (by omega)).lt)
        refine wp_region_cut 25 rfl (by kernel_rfl) (any_region3 (Below v0.heap.size v0) v0.heap.size
         ([]:List (Nat×Cont))
         [kv (.slice (some ⟨bv,0,none⟩) 16 cv),kv (.int .i64 ((j:Nat):Int)),kv (.int .i64 ((j:Nat):Int)),kv (.int .i64 ((4+j:Nat):Int)),kv (.int .i64 ((j:Nat):Int)),kv (.int .i64 ((8+j:Nat):Int)),kv (.int .i64 ((j:Nat):Int)),kv (.int .i64 ((12+j:Nat):Int)),kv (.slice (some ⟨bm,0,none⟩) 16 cm),kv (.slice (some ⟨bo+k,0,none⟩) 16 16),kv (.int .i64 ((j:Nat):Int)),kv (.int .i64 ((2*(j):Nat):Int)),kv (.pointer (some ⟨bo+k,0+(2*(j)),none⟩)),kv (.int .i64 (((ord k (2*(j)):Nat):Int))),kv (.pointer (some ⟨bm,0+(ord k (2*(j))),none⟩)),kv (.int .i64 (bwd s (ord k (2*(j))))),kv (.slice (some ⟨bm,0,none⟩) 16 cm),kv (.slice (some ⟨bo+k,0,none⟩) 16 16),kv (.int .i64 ((j:Nat):Int)),kv (.int .i64 ((2*(j):Nat):Int)),kv (.int .i64 ((2*(j)+1:Nat):Int)),kv (.pointer (some ⟨bo+k,0+(2*(j)+1),none⟩)),kv (.int .i64 (((ord k (2*(j)+1):Nat):Int))),kv (.pointer (some ⟨bm,0+(ord k (2*(j)+1)),none⟩)),kv (.int .i64 (bwd s (ord k (2*(j)+1))))]
         [.none,.none,.none,.none,.none,.none,.none,.none,.none,.none,.none,.none,.none,.none,.none,.none,.none,.none,.none,.none,.none,.none,.none,.none,.none]
         [some 98,some 99,some 100,some 101,some 102,some 103,some 104,some 105,some 106,some 107,some 108,some 109,some 110,some 111,some 112,some 113,some 114,some 115,some 116,some 117,some 118,some 119,some 120,some 121,some 122]
         [(10,.slice (some ⟨bv,0,none⟩) 16 cv),(8,.slice (some ⟨bm,0,none⟩) 16 cm),(13,.slice (some ⟨bo+k,0,none⟩) 16 16),(14,.int .i64 ((j:Nat):Int))]
         [[],[],[],[.slot 2],[],[.slot 4],[],[.slot 6],[],[],[],[.slot 10],[.slot 9,.slot 11],[.slot 12],[.slot 8,.slot 13],[.slot 14],[],[],[],[.slot 18],[.slot 19],[.slot 17,.slot 20],[.slot 21],[.slot 16,.slot 22],[.slot 23]]
         [.slot 0,.slot 1,.slot 3,.slot 5,.slot 7,.slot 15,.slot 24] [98,99,100,101,102,103,104,105,106,107,108,109,110,111,112,113,114,115,116,117,118,119,120,121,122]
         (by kernel_rfl) ⟨rfl,rfl,rfl,rfl,trivial⟩ (Below.refl _ v0).drew (Nat.le_refl _) trivial trivial (below_G (Nat.le_refl _) trivial)
         ⟨
          (fun _ _ _ _ _ _ fr _=>sV (exec_move rfl fr.1)),
          (fun _ _ _ _ _ _ fr _=>sV (exec_move rfl fr.2.2.2.1)),
          (fun _ _ _ _ _ _ fr _=>sV (exec_move rfl fr.2.2.2.1)),
          (fun _ _ _ _ _ _ _ kn=>sV (exec_addN (m:=4) rfl rfl kn.1 (by omega))),
          (fun _ _ _ _ _ _ fr _=>sV (exec_move rfl fr.2.2.2.1)),
          (fun _ _ _ _ _ _ _ kn=>sV (exec_addN (m:=8) rfl rfl kn.1 (by omega))),
          (fun _ _ _ _ _ _ fr _=>sV (exec_move rfl fr.2.2.2.1)),
          (fun _ _ _ _ _ _ _ kn=>sV (exec_addN (m:=12) rfl rfl kn.1 (by omega))),
          (fun _ _ _ _ _ _ fr _=>sV (exec_move rfl fr.2.1)),
          (fun _ _ _ _ _ _ fr _=>sV (exec_move rfl fr.2.2.1)),
          (fun _ _ _ _ _ _ fr _=>sV (exec_move rfl fr.2.2.2.1)),
          (fun _ _ _ _ _ _ _ kn=>sV (exec_mulN (m:=2) rfl rfl kn.1 (by omega))),
          (fun _ _ _ _ _ _ _ kn=>sV (exec_idx rfl Tryz.underlying171 size_int kn.1 kn.2.1 (by omega))),
          (fun _ _ ww _ hS _ _ kn=>sV (exec_ld rfl kn.1 (load_int (cell0 (HOR.out ww hS) (by omega))))),
          (fun _ _ _ _ _ _ _ kn=>sV (exec_idx rfl Tryz.underlying171 size_int kn.1 kn.2.1 (by omega))),
          (fun _ _ ww _ hS _ _ kn=>sV (exec_ld rfl kn.1 (load_int (cell0 (HM.out ww hS) (by omega))))),
          (fun _ _ _ _ _ _ fr _=>sV (exec_move rfl fr.2.1)),
          (fun _ _ _ _ _ _ fr _=>sV (exec_move rfl fr.2.2.1)),
          (fun _ _ _ _ _ _ fr _=>sV (exec_move rfl fr.2.2.2.1)),
          (fun _ _ _ _ _ _ _ kn=>sV (exec_mulN (m:=2) rfl rfl kn.1 (by omega))),
          (fun _ _ _ _ _ _ _ kn=>sV (exec_addN (n:=1) rfl kn.1 rfl (by omega))),
          (fun _ _ _ _ _ _ _ kn=>sV (exec_idx rfl Tryz.underlying171 size_int kn.1 kn.2.1 (by omega))),
          (fun _ _ ww _ hS _ _ kn=>sV (exec_ld rfl kn.1 (load_int (cell0 (HOR.out ww hS) (by omega))))),
          (fun _ _ _ _ _ _ _ kn=>sV (exec_idx rfl Tryz.underlying171 size_int kn.1 kn.2.1 (by omega))),
          (fun _ _ ww _ hS _ _ kn=>sV (exec_ld rfl kn.1 (load_int (cell0 (HM.out ww hS) (by omega))))),
          trivial⟩ ?_)
        intro vs own v6 hB6 hs6 kn inj
        clear inj hs6
        have e98:vs 98=_:=kn.1
        have e99:vs 99=_:=kn.2.1
        have e101:vs 101=_:=kn.2.2.1
        have e103:vs 103=_:=kn.2.2.2.1
        have e105:vs 105=_:=kn.2.2.2.2.1
        have e113:vs 113=_:=kn.2.2.2.2.2.1
        have e122:vs 122=_:=kn.2.2.2.2.2.2.1
        clear kn HOR HM
        replace hV:=hV.below hB6 hV.lt
        replace hT:=hT.trans (touch_mono_false (touch_below hB6))
        clear hB6
        show wpList Tryz.prog _ _ (_::[]) _ _
        simp only[putAll,Act.put,List.setIfInBounds_toArray,List.set_cons_zero,List.set_cons_succ,e98,e99,e101,e103,e105,e113,e122]
        go_wp2_with fail
        refine (rmix_run bv 16 cv _ j (4+j) (8+j) (12+j) (bwd s (ord k (2*j))) (bwd s (ord k (2*j+1))) _ hV hWV (by omega) (by omega) (by omega) (by omega) (bwd_w HSB.out (by omega)) (bwd_w HSB.out (by omega))).mono ?_
        rintro e v7 ⟨rfl,hV7,hW7,hT7⟩
        replace hT:=hT.trans hT7
        clear hT7 hV hWV
        go_wp2_with fail
        go_roundg (4-(j+1))
        case rel=>exact ⟨j+1,Hid.mk (by omega),by go_num,hV7,Hid.mk hW7,hT⟩
        case measure=>have:=HJ.out;omega
       ·have hj2:j=4:=by omega
        subst hj2
        clear hj hj4 HJ
        generalize colB (bwd s) k X 4=Y at *
        go_wp2_with fail
        rw[show ((4:Nat):Int)=4 from rfl]
        generalize wr=wo2 at *
        go_loopg [15] 4 (fun gm iv v=>∃ j:Nat,Hid (gm+j=4)∧iv=.int .i64 (j:Int)∧RowAt v bv .i64 3 16 (diaB (bwd s) k Y j)∧Hid (∀ i,i<16→W32 (diaB (bwd s) k Y j i))∧Touch (fun x=>x=bv) v5 v)
        case atStart=>exact ⟨0,Hid.mk rfl,rfl,hV,HW,hT⟩
        case round =>
         clear hV HW hT
         obtain ⟨j,HJ,rfl,hV,HW,hT⟩:=hrel
         have hj4:j≤4:=by have:=HJ.out;omega
         by_cases hj:j<4
         ·have hWV:=HW.out
          clear HW
          have o1:=ord_lt k hk (8+2*j) (by omega)
          have o2:=ord_lt k hk (9+2*j) (by omega)
          go_wp2_with fail
          refine wp_gen (fun v=>RowAt v bv .i64 3 16 (diaB (bwd s) k Y j)∧Touch (fun x=>x=bv) v5 v) ⟨hV,hT⟩ ?_
          clear hV hT
          rintro v0 ⟨hV,hT⟩
          have HOR:Hid (∀ u,Below v0.heap.size v0 u→RowAt u (bo+k) .i64 3 16 (ordI k)):=Hid.mk (fun u hu=>(hord5.touch hT (by omega)).below hu (hord5.touch hT (by omega)).lt)
          have HM:Hid (∀ u,Below v0.heap.size v0 u→RowAt u bm .i64 3 16 (bwd s)):=Hid.mk (fun u hu=>(hM5.touch hT (by omega)).below hu (hM5.touch hT (by omega)).lt)
          refine wp_region_cut 32 rfl (by kernel_rfl) (any_region3 (Below v0.heap.size v0) v0.heap.size
           ([]:List (Nat×Cont))
           (kv (.slice (some ⟨bv,0,none⟩) 16 cv)::kv (.int .i64 ((j:Nat):Int))::kv (.int .i64 ((j:Nat):Int))::kv (.int .i64 ((j+1:Nat):Int))::kv (.int .i64 (((j+1)%4:Nat):Int))::kv (.int .i64 ((4+(j+1)%4:Nat):Int))::kv (.int .i64 ((j:Nat):Int))::kv (.int .i64 ((j+2:Nat):Int))::kv (.int .i64 (((j+2)%4:Nat):Int))::kv (.int .i64 ((8+(j+2)%4:Nat):Int))::kv (.int .i64 ((j:Nat):Int))::kv (.int .i64 ((j+3:Nat):Int))::kv (.int .i64 (((j+3)%4:Nat):Int))::kv (.int .i64 ((12+(j+3)%4:Nat):Int))::kv (.slice (some ⟨bm,0,none⟩) 16 cm)::kv (.slice (some ⟨bo+k,0,none⟩) 16 16)::kv (.int .i64 ((j:Nat):Int))::kv (.int .i64 ((2*(j):Nat):Int))::kv (.int .i64 ((8+2*(j):Nat):Int))::kv (.pointer (some ⟨bo+k,0+(8+2*(j)),none⟩))::kv (.int .i64 (((ord k (8+2*(j)):Nat):Int)))::kv (.pointer (some ⟨bm,0+(ord k (8+2*(j))),none⟩))::kv (.int .i64 (bwd s (ord k (8+2*(j)))))::kv (.slice (some ⟨bm,0,none⟩) 16 cm)::kv (.slice (some ⟨bo+k,0,none⟩) 16 16)::kv (.int .i64 ((j:Nat):Int))::kv (.int .i64 ((2*(j):Nat):Int))::kv (.int .i64 ((9+2*(j):Nat):Int))::kv (.pointer (some ⟨bo+k,0+(9+2*(j)),none⟩))::kv (.int .i64 (((ord k (9+2*(j)):Nat):Int)))::kv (.pointer (some ⟨bm,0+(ord k (9+2*(j))),none⟩))::kv (.int .i64 (bwd s (ord k (9+2*(j)))))::[])
           (.none::.none::.none::.none::.none::.none::.none::.none::.none::.none::.none::.none::.none::.none::.none::.none::.none::.none::.none::.none::.none::.none::.none::.none::.none::.none::.none::.none::.none::.none::.none::.none::[])
           (some 128::some 129::some 130::some 131::some 132::some 133::some 134::some 135::some 136::some 137::some 138::some 139::some 140::some 141::some 142::some 143::some 144::some 145::some 146::some 147::some 148::some 149::some 150::some 151::some 152::some 153::some 154::some 155::some 156::some 157::some 158::some 159::[])
           [(10,.slice (some ⟨bv,0,none⟩) 16 cv),(8,.slice (some ⟨bm,0,none⟩) 16 cm),(13,.slice (some ⟨bo+k,0,none⟩) 16 16),(15,.int .i64 ((j:Nat):Int))]
           ([]::[]::[]::[.slot 2]::[.slot 3]::[.slot 4]::[]::[.slot 6]::[.slot 7]::[.slot 8]::[]::[.slot 10]::[.slot 11]::[.slot 12]::[]::[]::[]::[.slot 16]::[.slot 17]::[.slot 15,.slot 18]::[.slot 19]::[.slot 14,.slot 20]::[.slot 21]::[]::[]::[]::[.slot 25]::[.slot 26]::[.slot 24,.slot 27]::[.slot 28]::[.slot 23,.slot 29]::[.slot 30]::[])
           [.slot 0,.slot 1,.slot 5,.slot 9,.slot 13,.slot 22,.slot 31] (128::129::130::131::132::133::134::135::136::137::138::139::140::141::142::143::144::145::146::147::148::149::150::151::152::153::154::155::156::157::158::159::[])
           (by kernel_rfl) ⟨rfl,rfl,rfl,rfl,trivial⟩ (Below.refl _ v0).drew (Nat.le_refl _) trivial trivial (below_G (Nat.le_refl _) trivial)
           ⟨
            (fun _ _ _ _ _ _ fr _=>sV (exec_move rfl fr.1)),
            (fun _ _ _ _ _ _ fr _=>sV (exec_move rfl fr.2.2.2.1)),
            (fun _ _ _ _ _ _ fr _=>sV (exec_move rfl fr.2.2.2.1)),
            (fun _ _ _ _ _ _ _ kn=>sV (exec_addN (n:=1) rfl kn.1 rfl (by omega))),
            (fun _ _ _ _ _ _ _ kn=>sV (exec_remN (n:=4) rfl kn.1 rfl (by omega))),
            (fun _ _ _ _ _ _ _ kn=>sV (exec_addN (m:=4) rfl rfl kn.1 (by omega))),
            (fun _ _ _ _ _ _ fr _=>sV (exec_move rfl fr.2.2.2.1)),
            (fun _ _ _ _ _ _ _ kn=>sV (exec_addN (n:=2) rfl kn.1 rfl (by omega))),
            (fun _ _ _ _ _ _ _ kn=>sV (exec_remN (n:=4) rfl kn.1 rfl (by omega))),
            (fun _ _ _ _ _ _ _ kn=>sV (exec_addN (m:=8) rfl rfl kn.1 (by omega))),
            (fun _ _ _ _ _ _ fr _=>sV (exec_move rfl fr.2.2.2.1)),
            (fun _ _ _ _ _ _ _ kn=>sV (exec_addN (n:=3) rfl kn.1 rfl (by omega))),
            (fun _ _ _ _ _ _ _ kn=>sV (exec_remN (n:=4) rfl kn.1 rfl (by omega))),
            (fun _ _ _ _ _ _ _ kn=>sV (exec_addN (m:=12) rfl rfl kn.1 (by omega))),
            (fun _ _ _ _ _ _ fr _=>sV (exec_move rfl fr.2.1)),
            (fun _ _ _ _ _ _ fr _=>sV (exec_move rfl fr.2.2.1)),
            (fun _ _ _ _ _ _ fr _=>sV (exec_move rfl fr.2.2.2.1)),
            (fun _ _ _ _ _ _ _ kn=>sV (exec_mulN (m:=2) rfl rfl kn.1 (by omega))),
            (fun _ _ _ _ _ _ _ kn=>sV (exec_addN (m:=8) rfl rfl kn.1 (by omega))),
            (fun _ _ _ _ _ _ _ kn=>sV (exec_idx rfl Tryz.underlying171 size_int kn.1 kn.2.1 (by omega))),
            (fun _ _ ww _ hS _ _ kn=>sV (exec_ld rfl kn.1 (load_int (cell0 (HOR.out ww hS) (by omega))))),
            (fun _ _ _ _ _ _ _ kn=>sV (exec_idx rfl Tryz.underlying171 size_int kn.1 kn.2.1 (by omega))),
            (fun _ _ ww _ hS _ _ kn=>sV (exec_ld rfl kn.1 (load_int (cell0 (HM.out ww hS) (by omega))))),
            (fun _ _ _ _ _ _ fr _=>sV (exec_move rfl fr.2.1)),
            (fun _ _ _ _ _ _ fr _=>sV (exec_move rfl fr.2.2.1)),
            (fun _ _ _ _ _ _ fr _=>sV (exec_move rfl fr.2.2.2.1)),
            (fun _ _ _ _ _ _ _ kn=>sV (exec_mulN (m:=2) rfl rfl kn.1 (by omega))),
            (fun _ _ _ _ _ _ _ kn=>sV (exec_addN (m:=9) rfl rfl kn.1 (by omega))),
            (fun _ _ _ _ _ _ _ kn=>sV (exec_idx rfl Tryz.underlying171 size_int kn.1 kn.2.1 (by omega))),
            (fun _ _ ww _ hS _ _ kn=>sV (exec_ld rfl kn.1 (load_int (cell0 (HOR.out ww hS) (by omega))))),
            (fun _ _ _ _ _ _ _ kn=>sV (exec_idx rfl Tryz.underlying171 size_int kn.1 kn.2.1 (by omega))),
            (fun _ _ ww _ hS _ _ kn=>sV (exec_ld rfl kn.1 (load_int (cell0 (HM.out ww hS) (by omega))))),
            trivial⟩ ?_)
          intro vs own v6 hB6 hs6 kn inj
          clear inj hs6
          have e128:vs 128=_:=kn.1
          have e129:vs 129=_:=kn.2.1
          have e133:vs 133=_:=kn.2.2.1
          have e137:vs 137=_:=kn.2.2.2.1
          have e141:vs 141=_:=kn.2.2.2.2.1
          have e150:vs 150=_:=kn.2.2.2.2.2.1
          have e159:vs 159=_:=kn.2.2.2.2.2.2.1
          clear kn HOR HM
          replace hV:=hV.below hB6 hV.lt
          replace hT:=hT.trans (touch_mono_false (touch_below hB6))
          clear hB6
          show wpList Tryz.prog _ _ (_::[]) _ _
          simp only[putAll,Act.put,List.setIfInBounds_toArray,List.set_cons_zero,List.set_cons_succ,e128,e129,e133,e137,e141,e150,e159]
          go_wp2_with fail
          refine (rmix_run bv 16 cv _ j (4+(j+1)%4) (8+(j+2)%4) (12+(j+3)%4) (bwd s (ord k (8+2*j))) (bwd s (ord k (9+2*j))) _ hV hWV (by omega) (by omega) (by omega) (by omega) (bwd_w HSB.out (by omega)) (bwd_w HSB.out (by omega))).mono ?_
          rintro e v7 ⟨rfl,hV7,hW7,hT7⟩
          replace hT:=hT.trans hT7
          clear hT7 hV hWV
          go_wp2_with fail
          go_roundg (4-(j+1))
          case rel=>exact ⟨j+1,Hid.mk (by omega),by go_num,hV7,Hid.mk hW7,hT⟩
          case measure=>have:=HJ.out;omega
         ·have hj2:j=4:=by omega
          subst hj2
          clear hj hj4 HJ
          rw[HN.out] at hV HW
          go_wp2_with fail
          go_roundg (10-(k+1))
          case rel=>exact ⟨k+1,Hid.mk (by omega),by go_num,hV,HW,hT⟩
          case measure=>have:=HK.out;omega
     ·have hk2:k=10:=by omega
      subst hk2
      have HTF:Hid (∀ q,takeF h s t true q=xorw (xorw (h q) (tenB (bwd s) (begV h t true) 10 q)) (tenB (bwd s) (begV h t true) 10 (q+8))):=Hid.mk (fun _=>rfl)
      generalize tenB (bwd s) (begV h t true) 10=vt at *
      have hHr:=hH5.touch hT (by omega)
      have hTw:Touch (fun x=>x=bh) w wr:=touch_mono_false ⟨hT.os.trans hB5.os,hT.tape.trans hB5.tape,hT.output.trans hB5.output,Nat.le_trans hB5.size hT.size,fun q hq _=>(hT.block q (Nat.lt_of_lt_of_le hq hB5.size) (by omega)).trans (hB5.block q hq)⟩
      clear hT hk hk10 HK
      go_wp2_with fail
      rw[show ((10:Nat):Int)=10 from rfl]
      generalize wr=wo3 at *
      go_loopg [16] 8 (fun gm iv v=>∃ j:Nat,Hid (gm+j=8)∧iv=.int .i64 (j:Int)∧RowAt v bh .i64 3 8 (fun q=>if q<j then takeF h s t true q else h q)∧RowAt v bv .i64 3 16 vt∧Touch (fun x=>x=bh) w v)
      case atStart=>exact ⟨0,Hid.mk rfl,rfl,hHr.mono (Nat.le_refl _) (fun q _=>by rw[if_neg (by omega)]),hV,hTw⟩
      case round =>
       clear hHr hV hTw
       obtain ⟨j,HJ,rfl,hHj,hV,hT⟩:=hrel
       have hj8:j≤8:=by have:=HJ.out;omega
       by_cases hj:j<8
       ·have HW1:Hid (W32 (if j<j then takeF h s t true j else h j)):=Hid.mk (by rw[if_neg (by omega)];exact hh j hj)
        have HNX:Hid (∀ q,q<8→upd (fun q=>if q<j then takeF h s t true q else h q) j (xorw (xorw (if j<j then takeF h s t true j else h j) (vt j)) (vt (j+8))) q=(fun q=>if q<j+1 then takeF h s t true q else h q) q):=Hid.mk (fun q _=>by
         unfold upd
         by_cases e:q=j
         ·subst e
          show (if q=q then _ else _)=(if q<q+1 then takeF h s t true q else h q)
          rw[if_pos rfl,if_neg (by omega),if_pos (by omega),HTF.out]
         ·show (if q=j then _ else _)=(if q<j+1 then takeF h s t true q else h q)
          rw[if_neg e]
          show (if q<j then takeF h s t true q else h q)=_
          by_cases h2:q<j
          ·rw[if_pos h2,if_pos (by omega)]
          ·rw[if_neg h2,if_neg (by omega)])
        have HWT:=HW
        generalize hhc:(fun q=>if q<j then takeF h s t true q else h q)=hc at *
        replace HW1:Hid (W32 (hc j)):=by rw[← hhc];exact HW1
        replace HNX:Hid (∀ q,q<8→upd hc j (xorw (xorw (hc j) (vt j)) (vt (j+8))) q=(fun q=>if q<j+1 then takeF h s t true q else h q) q):=by rw[← hhc];rw[← hhc] at HNX;exact HNX
        clear hhc
        go_wp2_with fail
        refine wp_gen (fun v=>RowAt v bh .i64 3 8 hc∧RowAt v bv .i64 3 16 vt∧Touch (fun x=>x=bh) w v) ⟨hHj,hV,hT⟩ ?_
        clear hHj hV hT
        rintro v0 ⟨hHj,hV,hT⟩
        have HH:Hid (∀ u,Below v0.heap.size v0 u→RowAt u bh .i64 3 8 hc):=Hid.mk (fun u hu=>hHj.below hu hHj.lt)
        have HV:Hid (∀ u,Below v0.heap.size v0 u→RowAt u bv .i64 3 16 vt):=Hid.mk (fun u hu=>hV.below hu hV.lt)
        refine wp_region_cut 18 rfl (by kernel_rfl) (any_region3 (Below v0.heap.size v0) v0.heap.size
         ([]:List (Nat×Cont))
         [kv (.slice (some ⟨bh,0,none⟩) 8 ch),kv (.int .i64 ((j:Nat):Int)),kv (.slice (some ⟨bh,0,none⟩) 8 ch),kv (.int .i64 ((j:Nat):Int)),kv (.pointer (some ⟨bh,0+(j),none⟩)),kv (.int .i64 (hc j)),kv (.slice (some ⟨bv,0,none⟩) 16 cv),kv (.int .i64 ((j:Nat):Int)),kv (.pointer (some ⟨bv,0+(j),none⟩)),kv (.int .i64 (vt j)),kv (.int .i64 (xorw (hc j) (vt j))),kv (.slice (some ⟨bv,0,none⟩) 16 cv),kv (.int .i64 ((j:Nat):Int)),kv (.int .i64 ((j+8:Nat):Int)),kv (.pointer (some ⟨bv,0+(j+8),none⟩)),kv (.int .i64 (vt (j+8))),kv (.int .i64 (xorw (xorw (hc j) (vt j)) (vt (j+8)))),kv (.pointer (some ⟨bh,0+(j),none⟩))]
         [.none,.none,.none,.none,.none,.none,.none,.none,.none,.none,.none,.none,.none,.none,.none,.none,.none,.none]
         [some 165,some 166,some 167,some 168,some 169,some 170,some 171,some 172,some 173,some 174,some 175,some 176,some 177,some 178,some 179,some 180,some 181,some 182]
         [(0,.slice (some ⟨bh,0,none⟩) 8 ch),(16,.int .i64 ((j:Nat):Int)),(10,.slice (some ⟨bv,0,none⟩) 16 cv)]
         [[],[],[],[],[.slot 2,.slot 3],[.slot 4],[],[],[.slot 6,.slot 7],[.slot 8],[.slot 5,.slot 9],[],[],[.slot 12],[.slot 11,.slot 13],[.slot 14],[.slot 10,.slot 15],[.slot 0,.slot 1]]
         [.slot 16,.slot 17] [165,166,167,168,169,170,171,172,173,174,175,176,177,178,179,180,181,182]
         (by kernel_rfl) ⟨rfl,rfl,rfl,trivial⟩ (Below.refl _ v0).drew (Nat.le_refl _) trivial trivial (below_G (Nat.le_refl _) trivial)
         ⟨
          (fun _ _ _ _ _ _ fr _=>sV (exec_move rfl fr.1)),
          (fun _ _ _ _ _ _ fr _=>sV (exec_move rfl fr.2.1)),
          (fun _ _ _ _ _ _ fr _=>sV (exec_move rfl fr.1)),
          (fun _ _ _ _ _ _ fr _=>sV (exec_move rfl fr.2.1)),
          (fun _ _ _ _ _ _ _ kn=>sV (exec_idx rfl Tryz.underlying171 size_int kn.1 kn.2.1 (by omega))),
          (fun _ _ ww _ hS _ _ kn=>sV (exec_ld rfl kn.1 (load_int (cell0 (HH.out ww hS) (by omega))))),
          (fun _ _ _ _ _ _ fr _=>sV (exec_move rfl fr.2.2.1)),
          (fun _ _ _ _ _ _ fr _=>sV (exec_move rfl fr.2.1)),
          (fun _ _ _ _ _ _ _ kn=>sV (exec_idx rfl Tryz.underlying171 size_int kn.1 kn.2.1 (by omega))),
          (fun _ _ ww _ hS _ _ kn=>sV (exec_ld rfl kn.1 (load_int (cell0 (HV.out ww hS) (by omega))))),
          (fun _ _ _ _ _ _ _ kn=>sV (exec_xor rfl kn.1 kn.2.1 HW1.out (HWT.out j (by omega)))),
          (fun _ _ _ _ _ _ fr _=>sV (exec_move rfl fr.2.2.1)),
          (fun _ _ _ _ _ _ fr _=>sV (exec_move rfl fr.2.1)),
          (fun _ _ _ _ _ _ _ kn=>sV (exec_addN (n:=8) rfl kn.1 rfl (by omega))),
          (fun _ _ _ _ _ _ _ kn=>sV (exec_idx rfl Tryz.underlying171 size_int kn.1 kn.2.1 (by omega))),
          (fun _ _ ww _ hS _ _ kn=>sV (exec_ld rfl kn.1 (load_int (cell0 (HV.out ww hS) (by omega))))),
          (fun _ _ _ _ _ _ _ kn=>sV (exec_xor rfl kn.1 kn.2.1 (xorw_w HW1.out (HWT.out j (by omega))) (HWT.out (j+8) (by omega)))),
          (fun _ _ _ _ _ _ _ kn=>sV (exec_idx rfl Tryz.underlying171 size_int kn.1 kn.2.1 (by omega))),
          trivial⟩ ?_)
        intro vs own v6 hB6 hs6 kn inj
        clear inj hs6
        have e181:vs 181=_:=kn.1
        have e182:vs 182=_:=kn.2.1
        rw[Nat.zero_add] at e182
        clear kn
        have hH6:=HH.out _ hB6
        have hV6:=HV.out _ hB6
        replace hT:=hT.trans (touch_mono_false (touch_below hB6))
        clear hB6 HH HV hHj hV
        have c0:=hH6.cell j hj
        have f0:=hH6.free j hj
        have hHn:=Hid.mk ((hH6.set j (xorw (xorw (hc j) (vt j)) (vt (j+8)))).mono (Nat.le_refl _) HNX.out)
        have hVn:=Hid.mk (hV6.only (only_set (w:=v6) (g:=bh) (i:=j) (v:=.int .i64 (xorw (xorw (hc j) (vt j)) (vt (j+8))))) (by omega))
        have hTn:=Hid.mk (hT.trans (touch_only (only_set (w:=v6) (g:=bh) (i:=j) (v:=.int .i64 (xorw (xorw (hc j) (vt j)) (vt (j+8)))))))
        generalize xorw (xorw (hc j) (vt j)) (vt (j+8))=yy at *
        show wpList Tryz.prog _ _ (_::[]) _ _
        simp only[putAll,Act.put,List.setIfInBounds_toArray,List.set_cons_zero,List.set_cons_succ,e181,e182]
        go_wp2_with fail
        go_roundg (8-(j+1))
        case rel=>exact ⟨j+1,Hid.mk (by omega),by go_num,hHn.out,hVn.out,hTn.out⟩
        case measure=>have:=HJ.out;omega
       ·have hj2:j=8:=by omega
        subst hj2
        replace hHj:=hHj.mono (Nat.le_refl _) (s':=takeF h s t true) (fun q hq=>by rw[if_pos hq])
        go_wp2_with fail
        go_end0
        exact ⟨rfl,hHj,fun q hq=>by rw[HTF.out];exact xorw_w (xorw_w (hh q hq) (HW.out q (by omega))) (HW.out (q+8) (by omega)),hT⟩
def h0F (size kl:Nat):Nat→Int:=upd bgn 0 (xorw (xorw (xorw (bgn 0) 16842752) (256*(kl:Int))) (size:Int))
def allT (key text:ByteArray):ByteArray:=if key.size=0 then text else key++mkS (64-key.size) (fun _=>0)++text
def stF (all:ByteArray) (h0:Nat→Int):Nat→Nat→Int
 | 0=>h0
 | k+1=>takeF (stF all h0 k) (fun j=>txt all (64*k+j)) ((64*k+min 64 (all.size-64*k):Nat):Int) (decide (64*k+min 64 (all.size-64*k)=all.size))
def nbF (n:Nat):Nat:=if n=0 then 1 else (n+63)/64
def outF (h:Nat→Int) (i:Nat):Int:=h (i/4)/256 ^ (i%4)%256
theorem outF_b (h:Nat→Int) (i:Nat):0≤outF h i∧outF h i<256:=by unfold outF;omega
def hashT (size:Nat) (key text:ByteArray):ByteArray:=mkS size (outF (stF (allT key text) (h0F size key.size) (nbF (allT key text).size)))
theorem h0F_w {size kl:Nat} (hs:size≤64) (hk:kl≤64):∀ i,i<8→W32 (h0F size kl i):=w32_upd (fun i _=>bgn_w i) (xorw_w (xorw_w (xorw_w (bgn_w 0) (by unfold W32;omega)) (by unfold W32;omega)) (by unfold W32;omega))
theorem exec_minN {a:Act} {o:Oper} {w:World} {x y:Operand} (ho:o.op=.call { callee:=.builtin .min,args:=#[x,y],argTypes:=#[3,3] }) {m n:Nat} (hx:a.eval x=.int .i64 (m:Int)) (hy:a.eval y=.int .i64 (n:Int)):(execOp a.eval o).run Tryz.prog w=.ok (.value (.int .i64 ((min m n:Nat):Int))) w:=by
 have hr:=run_min_int2 (P:=Tryz.prog) (w:=w) #[3,3] o.type .i64 .i64 (m:Int) (n:Int)
 have e:(if (n:Int)<(m:Int) then (n:Int) else (m:Int))=((min m n:Nat):Int):=by split<;>omega
 rw[e] at hr
 simp[execOp,ho,resolve,invoke,builtin,hx,hy,hr]
theorem exec_subN {a:Act} {o:Oper} {w:World} {x y:Operand} (ho:o.op=.binOp .sub 3 x y 3) {m n:Nat} (hx:a.eval x=.int .i64 (m:Int)) (hy:a.eval y=.int .i64 (n:Int)) (h:n≤m) (h2:m<9223372036854775808):(execOp a.eval o).run Tryz.prog w=.ok (.value (.int .i64 ((m-n:Nat):Int))) w:=by
 have e:(m:Int)-(n:Int)=((m-n:Nat):Int):=by omega
 exact exec_bin ho rfl hx hy (by simp[go_sem,e,i64_wrap (n:=((m-n:Nat):Int)) (by omega) (by omega)])
theorem exec_eqIN {a:Act} {o:Oper} {w:World} {x y:Operand} (ho:o.op=.binOp .eql 3 x y 3) {m n:Nat} {z:Bool} (hx:a.eval x=.int .i64 (m:Int)) (hy:a.eval y=.int .i64 (n:Int)) (hz:decide (m=n)=z):(execOp a.eval o).run Tryz.prog w=.ok (.value (.bool z)) w:=by
 subst hz
 exact exec_bin2 ho hx hy rfl (by
  by_cases e:m=n
  ·simp[go_sem,e]
  ·have e2:¬ (m:Int)=(n:Int):=by omega
   simp[go_sem,e,e2])
theorem exec_lssN {a:Act} {o:Oper} {w:World} {x y:Operand} (ho:o.op=.binOp .lss 3 x y 3) {m n:Nat} {z:Bool} (hx:a.eval x=.int .i64 (m:Int)) (hy:a.eval y=.int .i64 (n:Int)) (hz:decide (m<n)=z):(execOp a.eval o).run Tryz.prog w=.ok (.value (.bool z)) w:=by
 subst hz
 exact exec_bin ho rfl hx hy (by by_cases e:m<n<;>simp[go_sem,e])
theorem exec_minV {a:Act} {o:Oper} {w:World} {x y:Operand} (ho:o.op=.call { callee:=.builtin .min,args:=#[x,y],argTypes:=#[3,3] }) {m n q:Nat} (hx:a.eval x=.int .i64 (m:Int)) (hy:a.eval y=.int .i64 (n:Int)) (e:min m n=q):(execOp a.eval o).run Tryz.prog w=.ok (.value (.int .i64 (q:Int))) w:=e▸exec_minN ho hx hy
theorem exec_subV {a:Act} {o:Oper} {w:World} {x y:Operand} (ho:o.op=.binOp .sub 3 x y 3) {m n q:Nat} (hx:a.eval x=.int .i64 (m:Int)) (hy:a.eval y=.int .i64 (n:Int)) (e:m-n=q) (h:n≤m) (h2:m<9223372036854775808):(execOp a.eval o).run Tryz.prog w=.ok (.value (.int .i64 (q:Int))) w:=e▸exec_subN ho hx hy h h2
theorem exec_addV {a:Act} {o:Oper} {w:World} {x y:Operand} (ho:o.op=.binOp .add 3 x y 3) {m n q:Nat} (hx:a.eval x=.int .i64 (m:Int)) (hy:a.eval y=.int .i64 (n:Int)) (e:m+n=q) (h:m+n<9223372036854775808):(execOp a.eval o).run Tryz.prog w=.ok (.value (.int .i64 (q:Int))) w:=e▸exec_addN ho hx hy h
theorem exec_mulV {a:Act} {o:Oper} {w:World} {x y:Operand} (ho:o.op=.binOp .mul 3 x y 3) {m n q:Nat} (hx:a.eval x=.int .i64 (m:Int)) (hy:a.eval y=.int .i64 (n:Int)) (e:m*n=q) (h:m*n<9223372036854775808):(execOp a.eval o).run Tryz.prog w=.ok (.value (.int .i64 (q:Int))) w:=e▸exec_mulN ho hx hy h
theorem exec_remV {a:Act} {o:Oper} {w:World} {x y:Operand} (ho:o.op=.binOp .rem 3 x y 3) {m n q:Nat} (hx:a.eval x=.int .i64 (m:Int)) (hy:a.eval y=.int .i64 (n:Int)) (e:m%n=q) (h:0<n):(execOp a.eval o).run Tryz.prog w=.ok (.value (.int .i64 (q:Int))) w:=e▸exec_remN ho hx hy h
theorem strLH (s:ByteArray) (l n:Nat) (w:World) (h1:l≤n) (h:n≤s.size):(Instr.sliceAt 9 (.string s) (some (.int .i64 (l:Int))) (some (.int .i64 (n:Int))) none).run Tryz.prog w=.ok (.string (s.extract l n)) w:=by
 have h2:(n:Int)≤(s.size:Int):=by omega
 have h3:(l:Int)≤(n:Int):=by omega
 simp[go_sem,h2,h3]
theorem txt_cut (s:ByteArray) (l n j:Nat) (hj:j<n-l) (h:n≤s.size):txt (s.extract l n) j=txt s (l+j):=by
 have hs:j<(s.extract l n).size:=by simp;omega
 rw[← txt_get hs,← txt_get (s:=s) (j:=l+j) (by omega)]
 congr 2
 exact ByteArray.getElem_extract hs
theorem cut_txt (s:ByteArray) (l n:Nat) (h:n≤s.size):s.extract l n=mkS (n-l) (fun j=>txt s (l+j)):=by
 have hs:(s.extract l n).size=n-l:=by simp;omega
 conv=>lhs;rw[← mkS_txt (s.extract l n),hs]
 exact mkS_congr (fun j hj=>txt_cut s l n j hj h)
theorem same_ext0 {s:ByteArray} (h:s.size=0):s=⟨#[]⟩:=ByteArray.ext (Array.eq_empty_of_size_eq_zero h)
theorem txt_out {s:ByteArray} {j:Nat} (h:s.size≤j):txt s j=0:=by
 unfold txt
 rw[List.getD_eq_getElem?_getD,List.getElem?_eq_none (by simpa using h)]
 rfl
theorem block_txt (s:ByteArray) (l n:Nat) (hn:n=min 64 (s.size-l)):∀ j,j<64→over (fun _=>0) 0 n (fun j=>txt s (l+j)) j=txt s (l+j):=fun j hj=>by
 unfold over
 by_cases e:j<n
 ·rw[if_pos (by omega),Nat.sub_zero]
 ·rw[if_neg (by omega),txt_out (by omega)]
theorem run_makeB (n:Nat) (hn:n≤64) (w:World):(Instr.makeSlice 81 (.int .i64 (n:Int)) (.int .i64 (n:Int))).run Tryz.prog w=.ok (.slice (some ⟨w.heap.size,0,none⟩) n n) (w.alloc (.cells (WA .u8 n fun _=>0) 5)):=by
 have hm:=run_make_row' (P:=Tryz.prog) 81 5 (.int .u8 0) 1 Tryz.underlying81 infoByte rfl .i64 .i64 n (by omega) (by omega) w
 rw[made_WA] at hm
 exact hm
theorem wl_makeB {ops:Array Oper} {rest:List Oper} {d:Option Tmp} {x y:Operand} {ty:TypeId} {ps:String} {af:Array Edge} {a:Act} {w:World} {Q:Exit→Act→World→Prop} {n:Nat} (hx:a.eval x=.int .i64 (n:Int)) (hy:a.eval y=.int .i64 (n:Int)) (hn:n≤64)
  (h:∀ w',ArrAt w' w.heap.size .u8 5 n (fun _=>0)→Below w.heap.size w w'→wpList Tryz.prog ops Q rest (a.put d (.slice (some ⟨w.heap.size,0,none⟩) n n)) w') :
  wpList Tryz.prog ops Q ({ dst:=d,op:=.makeSlice 81 x y,type:=ty,pos:=ps,after:=af,guard:=none }::rest) a w:=by
 have hr:=run_makeB n hn w
 refine wl_act rfl ?_
 unfold Oper.wp execOp
 simp only[hx,hy,Sem.run_bind,hr,Result.andThen_ok,Sem.run_pure,Oper.upon]
 exact h _ (heap_alloc_new w _) ((Below.refl _ _).alloc (Nat.le_refl _) _)
theorem wl_copyS {ops:Array Oper} {rest:List Oper} {dt:Option Tmp} {d s':Operand} {ty:TypeId} {ps:String} {af:Array Edge} {a:Act} {w:World} {Q:Exit→Act→World→Prop}
  {g off dL dC n m:Nat} {t:TypeId} {s r:Nat→Int} (hd:a.eval d=.slice (some ⟨g,off,none⟩) dL dC) (hs:a.eval s'=.string (mkS m r)) (hg:ArrAt w g .u8 t n s) (hr:∀ j,j<m→0≤r j∧r j<256) (hm:m≤dL) (hfit:off+m≤n)
  (h:∀ w',ArrAt w' g .u8 t n (over s off m r)→Only g w w'→wpList Tryz.prog ops Q rest (a.put dt (goInt m)) w') :
  wpList Tryz.prog ops Q ({ dst:=dt,op:=.call { callee:=.builtin .copy,args:=#[d,s'],argTypes:=#[81,9] },type:=ty,pos:=ps,after:=af,guard:=none }::rest) a w :=
 wl_act rfl (act_copyS rfl hd hs hg hr hm hfit h)
theorem shr_bytes (x:Int) (r:Nat) (hr:r<4) (w:World):(binOp .shr 3 (.int .i64 x) (.int .i64 ((8*r:Nat):Int))).run Tryz.prog w=.ok (.int .i64 (x/256 ^ r)) w:=by
 match r,hr with
 | 0,_=>simp[go_sem]
 | 1,_=>simp[go_sem]
 | 2,_=>simp[go_sem]
 | 3,_=>simp[go_sem]
theorem exec_shrB {a:Act} {o:Oper} {w:World} {x y:Operand} (ho:o.op=.binOp .shr 3 x y 3) {n:Int} {r:Nat} (hx:a.eval x=.int .i64 n) (hy:a.eval y=.int .i64 ((8*r:Nat):Int)) (hr:r<4):(execOp a.eval o).run Tryz.prog w=.ok (.value (.int .i64 (n/256 ^ r))) w:=exec_bin2 ho hx hy rfl (shr_bytes n r hr w)
theorem exec_quoN {a:Act} {o:Oper} {w:World} {x y:Operand} (ho:o.op=.binOp .quo 3 x y 3) {m n:Nat} (hx:a.eval x=.int .i64 (m:Int)) (hy:a.eval y=.int .i64 (n:Int)) (h:0<n) (hm:m<9223372036854775808):(execOp a.eval o).run Tryz.prog w=.ok (.value (.int .i64 ((m/n:Nat):Int))) w:=by
 have e:(m:Int).tdiv (n:Int)=((m/n:Nat):Int):=by rw[Int.tdiv_eq_ediv_of_nonneg (by omega)];simp
 have hn:¬ n=0:=by omega
 have hle:m/n≤m:=Nat.div_le_self _ _
 have e2:IntKind.i64.wrap ((m:Int)/(n:Int))=(m:Int)/(n:Int):=by
  have e3:(m:Int)/(n:Int)=((m/n:Nat):Int):=by simp
  generalize m/n=q at *
  rw[e3]
  exact i64_wrap (by omega) (by omega)
 exact exec_bin ho rfl hx hy (by simp[go_sem,hn,e,e2])
theorem exec_quoV {a:Act} {o:Oper} {w:World} {x y:Operand} (ho:o.op=.binOp .quo 3 x y 3) {m n q:Nat} (hx:a.eval x=.int .i64 (m:Int)) (hy:a.eval y=.int .i64 (n:Int)) (e:m/n=q) (h:0<n) (hm:m<9223372036854775808):(execOp a.eval o).run Tryz.prog w=.ok (.value (.int .i64 (q:Int))) w:=e▸exec_quoN ho hx hy h hm
theorem exec_shrV {a:Act} {o:Oper} {w:World} {x y:Operand} (ho:o.op=.binOp .shr 3 x y 3) {n:Int} {r q:Nat} (hx:a.eval x=.int .i64 n) (hy:a.eval y=.int .i64 (q:Int)) (e:8*r=q) (hr:r<4):(execOp a.eval o).run Tryz.prog w=.ok (.value (.int .i64 (n/256 ^ r))) w:=exec_shrB ho hx (e▸hy) hr
theorem conv_ib (n:Int) (w:World):(convert 3 5 (.int .i64 n)).run Tryz.prog w=.ok (.int .u8 (n%256)) w:=by
 have e:IntKind.u8.wrap n=n%256:=by rw[IntKind.wrap_u8]
 simp[go_sem,e]
theorem run_bsB (n:Int) (w:World):(Instr.buildSlice 81 1 #[(0,.int .u8 n)]).run Tryz.prog w=.ok (.slice (some ⟨w.heap.size,0,none⟩) 1 1) (w.alloc (.cells #[.int .u8 n] 5)):=by simp[go_sem]
theorem wl_bsB {ops:Array Oper} {rest:List Oper} {d:Option Tmp} {x:Operand} {ty:TypeId} {ps:String} {af:Array Edge} {a:Act} {w:World} {Q:Exit→Act→World→Prop} {n:Int} (hx:a.eval x=.int .u8 n)
  (h:∀ w',ArrAt w' w.heap.size .u8 5 1 (fun _=>n)→Below w.heap.size w w'→wpList Tryz.prog ops Q rest (a.put d (.slice (some ⟨w.heap.size,0,none⟩) 1 1)) w') :
  wpList Tryz.prog ops Q ({ dst:=d,op:=.buildSlice 81 1 #[(0,x)],type:=ty,pos:=ps,after:=af,guard:=none }::rest) a w:=by
 have hr:=run_bsB n w
 refine wl_act rfl ?_
 unfold Oper.wp execOp
 simp only[List.map_toArray,List.map_cons,List.map_nil,hx,Sem.run_bind,hr,Result.andThen_ok,Sem.run_pure,Oper.upon]
 exact h _ (heap_alloc_new w _) ((Below.refl _ _).alloc (Nat.le_refl _) _)
theorem allT_size (key text:ByteArray):(allT key text).size≤key.size+64+text.size:=by
 unfold allT
 split
 ·omega
 ·rw[ByteArray.size_append,ByteArray.size_append,mkS_size]
  omega
theorem rHash_run (size:Nat) (key text:ByteArray) (w:World) (h1:1≤size) (hsz:size≤32) (hk:key.size≤64) (ht:text.size≤562949953421312) :
  Calls Tryz.prog 108 #[.int .i64 (size:Int),.string key,.string text] w fun e w'=>e=.returned (.string (hashT size key text))∧Below w.heap.size w w':=by
 have WH:=h0F_w (size:=size) (kl:=key.size) (by omega) hk
 have hsa:(allT key text).size≤1125899906842624:=by have:=allT_size key text;omega
 have HF:Hid (mkS size (outF (stF (allT key text) (h0F size key.size) (nbF (allT key text).size)))=hashT size key text):=Hid.mk rfl
 generalize hashT size key text=RES at *
 go_enter Tryz.func108,Tryz.ntmps108
 go_wp2_with fail
 refine (begin_run _).mono ?_
 rintro e v1 ⟨rfl,gB,hb1⟩
 have c0:=gB.cell 0 (by omega)
 have f0:=gB.free 0
 have X1:W32 (xorw (bgn 0) 16842752):=xorw_w (bgn_w 0) (by unfold W32;omega)
 have X2:W32 (xorw (xorw (bgn 0) 16842752) (256*(key.size:Int))):=xorw_w X1 (by unfold W32;omega)
 have x1:bits .xor .i64 (bgn 0) 16842752=xorw (bgn 0) 16842752:=i64_xor (bgn_w 0) (by unfold W32;omega)
 have x2:bits .xor .i64 (xorw (bgn 0) 16842752) (256*(key.size:Int))=xorw (xorw (bgn 0) 16842752) (256*(key.size:Int)):=i64_xor X1 (by unfold W32;omega)
 have x3:bits .xor .i64 (xorw (xorw (bgn 0) 16842752) (256*(key.size:Int))) (size:Int)=xorw (xorw (xorw (bgn 0) 16842752) (256*(key.size:Int))) (size:Int):=i64_xor X2 (by unfold W32;omega)
 have hH:RowAt (v1.setCell ⟨w.heap.size,0,none⟩ (.int .i64 (xorw (xorw (xorw (bgn 0) 16842752) (256*(key.size:Int))) (size:Int)))) w.heap.size .i64 3 8 (h0F size key.size):=gB.row.set 0 _
 have hB:Below w.heap.size w (v1.setCell ⟨w.heap.size,0,none⟩ (.int .i64 (xorw (xorw (xorw (bgn 0) 16842752) (256*(key.size:Int))) (size:Int)))):=Below.setCell (p:=⟨w.heap.size,0,none⟩) hb1 (Nat.le_refl _) _
 clear gB hb1 X1 X2
 generalize h0F size key.size=H0 at *
 by_cases hk0:key.size=0
 ·have HE:Hid (key=⟨#[]⟩):=Hid.mk (same_ext0 hk0)
  have hall:allT key text=text:=by unfold allT;rw[if_pos hk0]
  rw[hall] at HF hsa
  clear hk0
  obtain ⟨al,hal⟩:∃ al,al=text:=⟨_,rfl⟩
  rw[← hal] at HF hsa
  go_wp2_with (refine wl_value (by rfl) (exec_neqS rfl (by rfl) (by rfl) HE.out) ?_)
  clear c0 f0 x1 x2 x3
  rw[← hal]
  clear hal hall ht HE
  have HN:Hid ((al.size=0→nbF al.size=1)∧(0<al.size→64*(nbF al.size-1)<al.size∧al.size≤64*nbF al.size)∧1≤nbF al.size):=Hid.mk (by unfold nbF;split<;>omega)
  generalize nbF al.size=N at *
  go_wp2_with fail
  go_loopg [9] N (fun gm iv v=>∃ k p:Nat,Hid (gm+k=N)∧Hid (p=64*k)∧iv=.int .i64 (p:Int)∧RowAt v w.heap.size .i64 3 8 (stF al H0 k)∧Hid (∀ i,i<8→W32 (stF al H0 k i))∧Below w.heap.size w v)
  case atStart=>exact ⟨0,0,Hid.mk rfl,Hid.mk rfl,rfl,hH,Hid.mk WH,hB⟩
  case round =>
   clear hH hB WH
   obtain ⟨k,p,HK,HP,rfl,hH,HW,hB⟩:=hrel
   have hkN:k≤N:=by have:=HK.out;omega
   by_cases hlt:k<N
   ·by_cases hk0:k=0
    ·have hz:decide (p=0)=true:=by have:=HP.out;simp;omega
     have hat:p≤al.size:=by have:=HN.out;have:=HP.out;omega
     clear hk0
     obtain ⟨d,HD⟩:∃ d,Hid (al.size-p=d):=⟨_,Hid.mk rfl⟩
     obtain ⟨mn,HM⟩:∃ mn,Hid (min 64 d=mn):=⟨_,Hid.mk rfl⟩
     obtain ⟨q,HQ⟩:∃ q,Hid (p+mn=q):=⟨_,Hid.mk rfl⟩
     have hm1:mn≤64:=by have:=HM.out;omega
     have hm2:q≤al.size:=by have:=HD.out;have:=HM.out;have:=HQ.out;omega
     have hpq:p≤q:=by have:=HQ.out;omega
     have hsl:∀ w,(Instr.sliceAt 9 (.string al) (some (.int .i64 (p:Int))) (some (.int .i64 (q:Int))) none).run Tryz.prog w=.ok (.string (mkS mn (fun j=>txt al (p+j)))) w:=fun w=>by
      rw[strLH al _ _ w hpq hm2,cut_txt al _ _ hm2,← HQ.out,Nat.add_sub_cancel_left]
     have HBK:=Hid.mk (block_txt al p mn (by have:=HD.out;have:=HM.out;omega))
     have HNX:Hid (takeF (stF al H0 k) (fun j=>txt al (p+j)) (q:Int) (decide (q=al.size))=stF al H0 (k+1)):=Hid.mk (by rw[← HQ.out,← HM.out,← HD.out,HP.out];rfl)
     generalize stF al H0 k=hk at *
     go_wp2_with (first|(refine wl_value (by rfl) (exec_eqIN (m:=p) (n:=0) rfl (by rfl) (by rfl) hz) ?_)|(refine wl_value (by rfl) (exec_subV (m:=al.size) (n:=p) rfl (by rfl) (by rfl) HD.out hat (by omega)) ?_)|(refine wl_value (by rfl) (exec_minV (m:=64) (n:=d) rfl (by rfl) (by rfl) HM.out) ?_)|(refine wl_makeB (n:=64) (by rfl) (by rfl) (by omega) ?_;intro v2 gK hb2;refine Hid.out ?_))
     have hH2:=hH.below hb2 hH.lt
     have hB2:=hB.trans (hb2.mono hB.size)
     have hz1:=hB.size
     have hz2:=hH.lt
     clear hb2 hH hB
     refine Hid.mk ?_
     go_wp2_with (first|(refine wl_value (by rfl) (exec_addV (m:=p) (n:=mn) rfl (by rfl) (by rfl) HQ.out (by omega)) ?_)|(refine wl_value (by rfl) (exec_slLH (v:=.string al) (u:=.int .i64 (p:Int)) (u':=.int .i64 (q:Int)) rfl (by rfl) (by rfl) (by rfl) (hsl _)) ?_)|(refine wl_copyS (by rfl) (by rfl) gK (fun j _=>txt_b _ _) hm1 (by omega) ?_;intro v3 g3 o3;refine Hid.out ?_))
     have hH3:=hH2.only o3 (by omega)
     have hB3:=hB2.trans (o3.below (by omega))
     replace g3:=g3.congr HBK.out
     clear o3 hH2 hB2 gK
     refine Hid.mk ?_
     go_wp2_with (first|(refine wl_value (by rfl) (exec_addV (m:=p) (n:=mn) rfl (by rfl) (by rfl) HQ.out (by omega)) ?_)|(refine wl_value (by rfl) (exec_eqIN (m:=q) (n:=al.size) rfl (by rfl) (by rfl) rfl) ?_))
     refine (rtake_run w.heap.size 8 _ 64 hk _ _ _ _ hH3 g3.row HW.out (fun j _=>txt_b _ _) (by omega)).mono ?_
     rintro e v4 ⟨rfl,hH4,hW4,hT4⟩
     rw[HNX.out] at hH4 hW4
     have hB4:=hB3.trans (below_touch hT4 (Nat.le_refl _) hB3.size)
     clear hT4 hH3 hB3 g3 HNX HBK hsl
     go_wp2_with (refine wl_value (by rfl) (exec_addV (m:=p) (n:=64) rfl (by rfl) (by rfl) rfl (by omega)) ?_)
     go_roundg (N-(k+1))
     case rel=>exact ⟨k+1,p+64,Hid.mk (by omega),Hid.mk (by have:=HP.out;omega),by go_num,hH4,Hid.mk hW4,hB4⟩
     case measure=>have:=HK.out;omega
    ·have hz:decide (p=0)=false:=by have:=HP.out;simp;omega
     have hat:p≤al.size:=by have:=HN.out;have:=HP.out;omega
     have hl:decide (p<al.size)=true:=by have:=HN.out;have:=HP.out;simp;omega
     clear hk0
     obtain ⟨d,HD⟩:∃ d,Hid (al.size-p=d):=⟨_,Hid.mk rfl⟩
     obtain ⟨mn,HM⟩:∃ mn,Hid (min 64 d=mn):=⟨_,Hid.mk rfl⟩
     obtain ⟨q,HQ⟩:∃ q,Hid (p+mn=q):=⟨_,Hid.mk rfl⟩
     have hm1:mn≤64:=by have:=HM.out;omega
     have hm2:q≤al.size:=by have:=HD.out;have:=HM.out;have:=HQ.out;omega
     have hpq:p≤q:=by have:=HQ.out;omega
     have hsl:∀ w,(Instr.sliceAt 9 (.string al) (some (.int .i64 (p:Int))) (some (.int .i64 (q:Int))) none).run Tryz.prog w=.ok (.string (mkS mn (fun j=>txt al (p+j)))) w:=fun w=>by
      rw[strLH al _ _ w hpq hm2,cut_txt al _ _ hm2,← HQ.out,Nat.add_sub_cancel_left]
     have HBK:=Hid.mk (block_txt al p mn (by have:=HD.out;have:=HM.out;omega))
     have HNX:Hid (takeF (stF al H0 k) (fun j=>txt al (p+j)) (q:Int) (decide (q=al.size))=stF al H0 (k+1)):=Hid.mk (by rw[← HQ.out,← HM.out,← HD.out,HP.out];rfl)
     generalize stF al H0 k=hk at *
     go_wp2_with (first|(refine wl_value (by rfl) (exec_eqIN (m:=p) (n:=0) rfl (by rfl) (by rfl) hz) ?_)|(refine wl_value (by rfl) (exec_lssN (m:=p) (n:=al.size) rfl (by rfl) (by rfl) hl) ?_)|(refine wl_value (by rfl) (exec_subV (m:=al.size) (n:=p) rfl (by rfl) (by rfl) HD.out hat (by omega)) ?_)|(refine wl_value (by rfl) (exec_minV (m:=64) (n:=d) rfl (by rfl) (by rfl) HM.out) ?_)|(refine wl_makeB (n:=64) (by rfl) (by rfl) (by omega) ?_;intro v2 gK hb2;refine Hid.out ?_))
     have hH2:=hH.below hb2 hH.lt
     have hB2:=hB.trans (hb2.mono hB.size)
     have hz1:=hB.size
     have hz2:=hH.lt
     clear hb2 hH hB
     refine Hid.mk ?_
     go_wp2_with (first|(refine wl_value (by rfl) (exec_addV (m:=p) (n:=mn) rfl (by rfl) (by rfl) HQ.out (by omega)) ?_)|(refine wl_value (by rfl) (exec_slLH (v:=.string al) (u:=.int .i64 (p:Int)) (u':=.int .i64 (q:Int)) rfl (by rfl) (by rfl) (by rfl) (hsl _)) ?_)|(refine wl_copyS (by rfl) (by rfl) gK (fun j _=>txt_b _ _) hm1 (by omega) ?_;intro v3 g3 o3;refine Hid.out ?_))
     have hH3:=hH2.only o3 (by omega)
     have hB3:=hB2.trans (o3.below (by omega))
     replace g3:=g3.congr HBK.out
     clear o3 hH2 hB2 gK
     refine Hid.mk ?_
     go_wp2_with (first|(refine wl_value (by rfl) (exec_addV (m:=p) (n:=mn) rfl (by rfl) (by rfl) HQ.out (by omega)) ?_)|(refine wl_value (by rfl) (exec_eqIN (m:=q) (n:=al.size) rfl (by rfl) (by rfl) rfl) ?_))
     refine (rtake_run w.heap.size 8 _ 64 hk _ _ _ _ hH3 g3.row HW.out (fun j _=>txt_b _ _) (by omega)).mono ?_
     rintro e v4 ⟨rfl,hH4,hW4,hT4⟩
     rw[HNX.out] at hH4 hW4
     have hB4:=hB3.trans (below_touch hT4 (Nat.le_refl _) hB3.size)
     clear hT4 hH3 hB3 g3 HNX HBK hsl
     go_wp2_with (refine wl_value (by rfl) (exec_addV (m:=p) (n:=64) rfl (by rfl) (by rfl) rfl (by omega)) ?_)
     go_roundg (N-(k+1))
     case rel=>exact ⟨k+1,p+64,Hid.mk (by omega),Hid.mk (by have:=HP.out;omega),by go_num,hH4,Hid.mk hW4,hB4⟩
     case measure=>have:=HK.out;omega
   ·have hk2:k=N:=by omega
    subst hk2
    have hz:decide (p=0)=false:=by have:=HN.out;have:=HP.out;simp;omega
    have hl:decide (p<al.size)=false:=by have:=HN.out;have:=HP.out;simp;omega
    generalize stF al H0 k=HH at *
    clear hlt hkN HK
    go_wp2_with (first|(refine wl_value (by rfl) (exec_eqIN (m:=p) (n:=0) rfl (by rfl) (by rfl) hz) ?_)|(refine wl_value (by rfl) (exec_lssN (m:=p) (n:=al.size) rfl (by rfl) (by rfl) hl) ?_))
    generalize wr=wo at *
    go_loopg [12,13] size (fun gm ov iv v=>∃ i:Nat,Hid (gm+i=size)∧iv=.int .i64 (i:Int)∧v.ownsRow wo.heap.size 5 1 ov i (nums .u8 i (outF HH))∧Below wo.heap.size wo v)
    case atStart=>exact ⟨0,Hid.mk rfl,rfl,World.ownsRow_nil _ _ _ _,Below.refl _ _⟩
    case round =>
     obtain ⟨i,HI,rfl,hO,hb⟩:=hrel
     have hi:i≤size:=by have:=HI.out;omega
     by_cases hil:i<size
     ·obtain ⟨qd,HQD⟩:∃ qd,Hid (i/4=qd):=⟨_,Hid.mk rfl⟩
      obtain ⟨rm,HRM⟩:∃ rm,Hid (i%4=rm):=⟨_,Hid.mk rfl⟩
      obtain ⟨sh,HSH⟩:∃ sh,Hid (8*rm=sh):=⟨_,Hid.mk rfl⟩
      have hqd:qd<8:=by have:=HQD.out;omega
      have hrm:rm<4:=by have:=HRM.out;omega
      have c0:=(hH.below hb hH.lt).cell qd hqd
      have HOE:Hid (HH qd/256 ^ rm%256=outF HH i):=Hid.mk (by rw[← HQD.out,← HRM.out];rfl)
      go_wp2_with (first|(refine wl_value (by rfl) (exec_quoV (m:=i) (n:=4) rfl (by rfl) (by rfl) HQD.out (by omega) (by omega)) ?_)|(refine wl_value (by rfl) (exec_remV (m:=i) (n:=4) rfl (by rfl) (by rfl) HRM.out (by omega)) ?_)|(refine wl_value (by rfl) (exec_mulV (m:=8) (n:=rm) rfl (by rfl) (by rfl) HSH.out (by omega)) ?_)|(refine wl_value (by rfl) (exec_shrV (r:=rm) rfl (by rfl) (by rfl) HSH.out hrm) ?_)|(refine wl_value (by rfl) (exec_conv rfl (by rfl) (conv_ib _ _)) ?_)|(refine wl_bsB (by rfl) ?_;intro v2 g2 hb2;refine Hid.out ?_))
      rw[HOE.out] at g2
      have hz:=hb.size
      replace hO:=own_kept hO hb2
      replace hb:=hb.trans (hb2.mono hb.size)
      have HBS:=Hid.mk hb.size
      clear hb2 c0
      refine Hid.mk ?_
      go_wp2_with (at_builtin;refine ap_own rfl _ _ 81 5 .u8 1 Tryz.underlying81 infoByte (by decide) (by rfl) (n:=i) (m:=1) (by rfl) hO (by rfl) (r:=fun _=>outF HH i) (fun j hj=>by rw[Nat.zero_add];exact g2.cell j hj) (by omega) HBS.out ?_;intro vb v3 h3 hb3;refine Hid.out ?_)
      rw[nums_congr (cat_one i (outF HH))] at h3
      replace hb:=hb.trans hb3
      clear hb3 hO g2 HBS HOE
      refine Hid.mk ?_
      go_wp2_with fail
      go_roundg (size-(i+1))
      case rel=>exact ⟨i+1,Hid.mk (by omega),by go_num,h3,hb⟩
      case measure=>have:=HI.out;omega
     ·have hi2:i=size:=by omega
      subst hi2
      obtain ⟨bo,co,rfl,hbo,hco,hR⟩:=own_row hO (by omega)
      have hcv:=str_back i bo co wr i (outF HH) hR (fun j _=>outF_b HH j) rfl
      have hBf:=hB.trans (hb.mono hB.size)
      clear hO hb hR
      go_wp2_with fail
      go_ret
      exact ⟨by rw[← HF.out];rfl,hBf⟩
 ·have HE:Hid (key≠⟨#[]⟩):=Hid.mk (fun e=>hk0 (by rw[e];rfl))
  have hall:key++mkS (64-key.size) (fun _=>0)++text=allT key text:=by unfold allT;rw[if_neg hk0]
  have hL1:key.size+(mkS (64-key.size) (fun _=>0)).size≤9223372036854775807:=by rw[mkS_size];omega
  have hL2:(key++mkS (64-key.size) (fun _=>0)).size+text.size≤9223372036854775807:=by rw[ByteArray.size_append,mkS_size];omega
  obtain ⟨zn,HZ⟩:∃ zn,Hid (64-key.size=zn):=⟨_,Hid.mk rfl⟩
  rw[HZ.out] at hall hL1 hL2
  have hzn:zn≤64:=by have:=HZ.out;omega
  have HAL:=Hid.mk hall
  have hks:key.size≤64:=by omega
  clear hall hk0
  generalize allT key text=al at *
  go_wp2_with (first|(refine wl_value (by rfl) (exec_neqST rfl (by rfl) (by rfl) HE.out) ?_)|(refine wl_value (by rfl) (exec_subV (m:=64) (n:=key.size) rfl (by rfl) (by rfl) HZ.out hks (by omega)) ?_)|(refine wl_makeB (n:=zn) (by rfl) (by rfl) hzn ?_;intro v2 gZ hb2;refine Hid.out ?_))
  clear c0 f0 x1 x2 x3
  replace hH:=hH.below hb2 hH.lt
  replace hB:=hB.trans (hb2.mono hB.size)
  replace gZ:ArrAt v2 v1.heap.size .u8 5 zn (fun _=>0):=by simpa using gZ
  have hcv:=str_back zn v1.heap.size zn v2 zn (fun _=>0) gZ.row (fun j _=>by omega) rfl
  clear hb2 gZ
  refine Hid.mk ?_
  go_wp2_with (first|(refine wl_value (by rfl) (exec_catS rfl (by rfl) (by rfl) hL1) ?_)|(refine wl_value (by rfl) (exec_catS rfl (by rfl) (by rfl) hL2) ?_))
  rw[HAL.out]
  clear HAL hL1 hL2 HZ hcv HE hzn ht
  have HN:Hid ((al.size=0→nbF al.size=1)∧(0<al.size→64*(nbF al.size-1)<al.size∧al.size≤64*nbF al.size)∧1≤nbF al.size):=Hid.mk (by unfold nbF;split<;>omega)
  generalize nbF al.size=N at *
  go_wp2_with fail
  go_loopg [9] N (fun gm iv v=>∃ k p:Nat,Hid (gm+k=N)∧Hid (p=64*k)∧iv=.int .i64 (p:Int)∧RowAt v w.heap.size .i64 3 8 (stF al H0 k)∧Hid (∀ i,i<8→W32 (stF al H0 k i))∧Below w.heap.size w v)
  case atStart=>exact ⟨0,0,Hid.mk rfl,Hid.mk rfl,rfl,hH,Hid.mk WH,hB⟩
  case round =>
   clear hH hB WH
   obtain ⟨k,p,HK,HP,rfl,hH,HW,hB⟩:=hrel
   have hkN:k≤N:=by have:=HK.out;omega
   by_cases hlt:k<N
   ·by_cases hk0:k=0
    ·have hz:decide (p=0)=true:=by have:=HP.out;simp;omega
     have hat:p≤al.size:=by have:=HN.out;have:=HP.out;omega
     clear hk0
     obtain ⟨d,HD⟩:∃ d,Hid (al.size-p=d):=⟨_,Hid.mk rfl⟩
     obtain ⟨mn,HM⟩:∃ mn,Hid (min 64 d=mn):=⟨_,Hid.mk rfl⟩
     obtain ⟨q,HQ⟩:∃ q,Hid (p+mn=q):=⟨_,Hid.mk rfl⟩
     have hm1:mn≤64:=by have:=HM.out;omega
     have hm2:q≤al.size:=by have:=HD.out;have:=HM.out;have:=HQ.out;omega
     have hpq:p≤q:=by have:=HQ.out;omega
     have hsl:∀ w,(Instr.sliceAt 9 (.string al) (some (.int .i64 (p:Int))) (some (.int .i64 (q:Int))) none).run Tryz.prog w=.ok (.string (mkS mn (fun j=>txt al (p+j)))) w:=fun w=>by
      rw[strLH al _ _ w hpq hm2,cut_txt al _ _ hm2,← HQ.out,Nat.add_sub_cancel_left]
     have HBK:=Hid.mk (block_txt al p mn (by have:=HD.out;have:=HM.out;omega))
     have HNX:Hid (takeF (stF al H0 k) (fun j=>txt al (p+j)) (q:Int) (decide (q=al.size))=stF al H0 (k+1)):=Hid.mk (by rw[← HQ.out,← HM.out,← HD.out,HP.out];rfl)
     generalize stF al H0 k=hk at *
     go_wp2_with (first|(refine wl_value (by rfl) (exec_eqIN (m:=p) (n:=0) rfl (by rfl) (by rfl) hz) ?_)|(refine wl_value (by rfl) (exec_subV (m:=al.size) (n:=p) rfl (by rfl) (by rfl) HD.out hat (by omega)) ?_)|(refine wl_value (by rfl) (exec_minV (m:=64) (n:=d) rfl (by rfl) (by rfl) HM.out) ?_)|(refine wl_makeB (n:=64) (by rfl) (by rfl) (by omega) ?_;intro v2 gK hb2;refine Hid.out ?_))
     have hH2:=hH.below hb2 hH.lt
     have hB2:=hB.trans (hb2.mono hB.size)
     have hz1:=hB.size
     have hz2:=hH.lt
     clear hb2 hH hB
     refine Hid.mk ?_
     go_wp2_with (first|(refine wl_value (by rfl) (exec_addV (m:=p) (n:=mn) rfl (by rfl) (by rfl) HQ.out (by omega)) ?_)|(refine wl_value (by rfl) (exec_slLH (v:=.string al) (u:=.int .i64 (p:Int)) (u':=.int .i64 (q:Int)) rfl (by rfl) (by rfl) (by rfl) (hsl _)) ?_)|(refine wl_copyS (by rfl) (by rfl) gK (fun j _=>txt_b _ _) hm1 (by omega) ?_;intro v3 g3 o3;refine Hid.out ?_))
     have hH3:=hH2.only o3 (by omega)
     have hB3:=hB2.trans (o3.below (by omega))
     replace g3:=g3.congr HBK.out
     clear o3 hH2 hB2 gK
     refine Hid.mk ?_
     go_wp2_with (first|(refine wl_value (by rfl) (exec_addV (m:=p) (n:=mn) rfl (by rfl) (by rfl) HQ.out (by omega)) ?_)|(refine wl_value (by rfl) (exec_eqIN (m:=q) (n:=al.size) rfl (by rfl) (by rfl) rfl) ?_))
     refine (rtake_run w.heap.size 8 _ 64 hk _ _ _ _ hH3 g3.row HW.out (fun j _=>txt_b _ _) (by omega)).mono ?_
     rintro e v4 ⟨rfl,hH4,hW4,hT4⟩
     rw[HNX.out] at hH4 hW4
     have hB4:=hB3.trans (below_touch hT4 (Nat.le_refl _) hB3.size)
     clear hT4 hH3 hB3 g3 HNX HBK hsl
     go_wp2_with (refine wl_value (by rfl) (exec_addV (m:=p) (n:=64) rfl (by rfl) (by rfl) rfl (by omega)) ?_)
     go_roundg (N-(k+1))
     case rel=>exact ⟨k+1,p+64,Hid.mk (by omega),Hid.mk (by have:=HP.out;omega),by go_num,hH4,Hid.mk hW4,hB4⟩
     case measure=>have:=HK.out;omega
    ·have hz:decide (p=0)=false:=by have:=HP.out;simp;omega
     have hat:p≤al.size:=by have:=HN.out;have:=HP.out;omega
     have hl:decide (p<al.size)=true:=by have:=HN.out;have:=HP.out;simp;omega
     clear hk0
     obtain ⟨d,HD⟩:∃ d,Hid (al.size-p=d):=⟨_,Hid.mk rfl⟩
     obtain ⟨mn,HM⟩:∃ mn,Hid (min 64 d=mn):=⟨_,Hid.mk rfl⟩
     obtain ⟨q,HQ⟩:∃ q,Hid (p+mn=q):=⟨_,Hid.mk rfl⟩
     have hm1:mn≤64:=by have:=HM.out;omega
     have hm2:q≤al.size:=by have:=HD.out;have:=HM.out;have:=HQ.out;omega
     have hpq:p≤q:=by have:=HQ.out;omega
     have hsl:∀ w,(Instr.sliceAt 9 (.string al) (some (.int .i64 (p:Int))) (some (.int .i64 (q:Int))) none).run Tryz.prog w=.ok (.string (mkS mn (fun j=>txt al (p+j)))) w:=fun w=>by
      rw[strLH al _ _ w hpq hm2,cut_txt al _ _ hm2,← HQ.out,Nat.add_sub_cancel_left]
     have HBK:=Hid.mk (block_txt al p mn (by have:=HD.out;have:=HM.out;omega))
     have HNX:Hid (takeF (stF al H0 k) (fun j=>txt al (p+j)) (q:Int) (decide (q=al.size))=stF al H0 (k+1)):=Hid.mk (by rw[← HQ.out,← HM.out,← HD.out,HP.out];rfl)
     generalize stF al H0 k=hk at *
     go_wp2_with (first|(refine wl_value (by rfl) (exec_eqIN (m:=p) (n:=0) rfl (by rfl) (by rfl) hz) ?_)|(refine wl_value (by rfl) (exec_lssN (m:=p) (n:=al.size) rfl (by rfl) (by rfl) hl) ?_)|(refine wl_value (by rfl) (exec_subV (m:=al.size) (n:=p) rfl (by rfl) (by rfl) HD.out hat (by omega)) ?_)|(refine wl_value (by rfl) (exec_minV (m:=64) (n:=d) rfl (by rfl) (by rfl) HM.out) ?_)|(refine wl_makeB (n:=64) (by rfl) (by rfl) (by omega) ?_;intro v2 gK hb2;refine Hid.out ?_))
     have hH2:=hH.below hb2 hH.lt
     have hB2:=hB.trans (hb2.mono hB.size)
     have hz1:=hB.size
     have hz2:=hH.lt
     clear hb2 hH hB
     refine Hid.mk ?_
     go_wp2_with (first|(refine wl_value (by rfl) (exec_addV (m:=p) (n:=mn) rfl (by rfl) (by rfl) HQ.out (by omega)) ?_)|(refine wl_value (by rfl) (exec_slLH (v:=.string al) (u:=.int .i64 (p:Int)) (u':=.int .i64 (q:Int)) rfl (by rfl) (by rfl) (by rfl) (hsl _)) ?_)|(refine wl_copyS (by rfl) (by rfl) gK (fun j _=>txt_b _ _) hm1 (by omega) ?_;intro v3 g3 o3;refine Hid.out ?_))
     have hH3:=hH2.only o3 (by omega)
     have hB3:=hB2.trans (o3.below (by omega))
     replace g3:=g3.congr HBK.out
     clear o3 hH2 hB2 gK
     refine Hid.mk ?_
     go_wp2_with (first|(refine wl_value (by rfl) (exec_addV (m:=p) (n:=mn) rfl (by rfl) (by rfl) HQ.out (by omega)) ?_)|(refine wl_value (by rfl) (exec_eqIN (m:=q) (n:=al.size) rfl (by rfl) (by rfl) rfl) ?_))
     refine (rtake_run w.heap.size 8 _ 64 hk _ _ _ _ hH3 g3.row HW.out (fun j _=>txt_b _ _) (by omega)).mono ?_
     rintro e v4 ⟨rfl,hH4,hW4,hT4⟩
     rw[HNX.out] at hH4 hW4
     have hB4:=hB3.trans (below_touch hT4 (Nat.le_refl _) hB3.size)
     clear hT4 hH3 hB3 g3 HNX HBK hsl
     go_wp2_with (refine wl_value (by rfl) (exec_addV (m:=p) (n:=64) rfl (by rfl) (by rfl) rfl (by omega)) ?_)
     go_roundg (N-(k+1))
     case rel=>exact ⟨k+1,p+64,Hid.mk (by omega),Hid.mk (by have:=HP.out;omega),by go_num,hH4,Hid.mk hW4,hB4⟩
     case measure=>have:=HK.out;omega
   ·have hk2:k=N:=by omega
    subst hk2
    have hz:decide (p=0)=false:=by have:=HN.out;have:=HP.out;simp;omega
    have hl:decide (p<al.size)=false:=by have:=HN.out;have:=HP.out;simp;omega
    generalize stF al H0 k=HH at *
    clear hlt hkN HK
    go_wp2_with (first|(refine wl_value (by rfl) (exec_eqIN (m:=p) (n:=0) rfl (by rfl) (by rfl) hz) ?_)|(refine wl_value (by rfl) (exec_lssN (m:=p) (n:=al.size) rfl (by rfl) (by rfl) hl) ?_))
    generalize wr=wo at *
    go_loopg [12,13] size (fun gm ov iv v=>∃ i:Nat,Hid (gm+i=size)∧iv=.int .i64 (i:Int)∧v.ownsRow wo.heap.size 5 1 ov i (nums .u8 i (outF HH))∧Below wo.heap.size wo v)
    case atStart=>exact ⟨0,Hid.mk rfl,rfl,World.ownsRow_nil _ _ _ _,Below.refl _ _⟩
    case round =>
     obtain ⟨i,HI,rfl,hO,hb⟩:=hrel
     have hi:i≤size:=by have:=HI.out;omega
     by_cases hil:i<size
     ·obtain ⟨qd,HQD⟩:∃ qd,Hid (i/4=qd):=⟨_,Hid.mk rfl⟩
      obtain ⟨rm,HRM⟩:∃ rm,Hid (i%4=rm):=⟨_,Hid.mk rfl⟩
      obtain ⟨sh,HSH⟩:∃ sh,Hid (8*rm=sh):=⟨_,Hid.mk rfl⟩
      have hqd:qd<8:=by have:=HQD.out;omega
      have hrm:rm<4:=by have:=HRM.out;omega
      have c0:=(hH.below hb hH.lt).cell qd hqd
      have HOE:Hid (HH qd/256 ^ rm%256=outF HH i):=Hid.mk (by rw[← HQD.out,← HRM.out];rfl)
      go_wp2_with (first|(refine wl_value (by rfl) (exec_quoV (m:=i) (n:=4) rfl (by rfl) (by rfl) HQD.out (by omega) (by omega)) ?_)|(refine wl_value (by rfl) (exec_remV (m:=i) (n:=4) rfl (by rfl) (by rfl) HRM.out (by omega)) ?_)|(refine wl_value (by rfl) (exec_mulV (m:=8) (n:=rm) rfl (by rfl) (by rfl) HSH.out (by omega)) ?_)|(refine wl_value (by rfl) (exec_shrV (r:=rm) rfl (by rfl) (by rfl) HSH.out hrm) ?_)|(refine wl_value (by rfl) (exec_conv rfl (by rfl) (conv_ib _ _)) ?_)|(refine wl_bsB (by rfl) ?_;intro v2 g2 hb2;refine Hid.out ?_))
      rw[HOE.out] at g2
      have hz:=hb.size
      replace hO:=own_kept hO hb2
      replace hb:=hb.trans (hb2.mono hb.size)
      have HBS:=Hid.mk hb.size
      clear hb2 c0
      refine Hid.mk ?_
      go_wp2_with (at_builtin;refine ap_own rfl _ _ 81 5 .u8 1 Tryz.underlying81 infoByte (by decide) (by rfl) (n:=i) (m:=1) (by rfl) hO (by rfl) (r:=fun _=>outF HH i) (fun j hj=>by rw[Nat.zero_add];exact g2.cell j hj) (by omega) HBS.out ?_;intro vb v3 h3 hb3;refine Hid.out ?_)
      rw[nums_congr (cat_one i (outF HH))] at h3
      replace hb:=hb.trans hb3
      clear hb3 hO g2 HBS HOE
      refine Hid.mk ?_
      go_wp2_with fail
      go_roundg (size-(i+1))
      case rel=>exact ⟨i+1,Hid.mk (by omega),by go_num,h3,hb⟩
      case measure=>have:=HI.out;omega
     ·have hi2:i=size:=by omega
      subst hi2
      obtain ⟨bo,co,rfl,hbo,hco,hR⟩:=own_row hO (by omega)
      have hcv:=str_back i bo co wr i (outF HH) hR (fun j _=>outF_b HH j) rfl
      have hBf:=hB.trans (hb.mono hB.size)
      clear hO hb hR
      go_wp2_with fail
      go_ret
      exact ⟨by rw[← HF.out];rfl,hBf⟩
theorem enterHash (args:Array Value) (w:World):(callFunc 108 args).run Tryz.prog w=.ok (.enter 108 args) w:=by kernel_rfl
def sumF (text:ByteArray):Nat→Int:=outF (stF text (h0F 32 0) (nbF text.size))
theorem hash_sum (text:ByteArray):hashT 32 ⟨#[]⟩ text=mkS 32 (sumF text):=by
 unfold hashT sumF
 have e:allT ⟨#[]⟩ text=text:=by unfold allT;exact if_pos rfl
 rw[e]
 rfl
theorem rHash32 (text:ByteArray) (w:World) (ht:text.size≤562949953421312):Calls Tryz.prog 108 #[.int .i64 32,.string ⟨#[]⟩,.string text] w fun e w'=>e=.returned (.string (mkS 32 (sumF text)))∧Below w.heap.size w w':=by
 have h:=rHash_run 32 ⟨#[]⟩ text w (by omega) (by omega) (by decide) ht
 rw[hash_sum] at h
 exact h
theorem rSum_run (text:ByteArray) (w:World) (ht:text.size≤562949953421312) :
  Calls Tryz.prog 72 #[.string text] w fun e w'=>e=.returned (.agg (WA .u8 32 (sumF text)))∧Below w.heap.size w w':=by
 have g0:ArrAt ((w.alloc (.cells (WA .u8 32 fun _=>0) 22)).alloc (.cells (WA .u8 32 fun _=>0) 22)) w.heap.size .u8 22 32 (fun _=>0):=heap_alloc2_old w _ _
 have g1:ArrAt ((w.alloc (.cells (WA .u8 32 fun _=>0) 22)).alloc (.cells (WA .u8 32 fun _=>0) 22)) (w.heap.size+1) .u8 22 32 (fun _=>0):=heap_alloc2_new w _ _
 have hB:Below w.heap.size w ((w.alloc (.cells (WA .u8 32 fun _=>0) 22)).alloc (.cells (WA .u8 32 fun _=>0) 22)):=((Below.refl _ w).alloc (by simp) _).alloc (by simp) _
 have HSM:=Hid.mk (fun w=>rHash32 text w ht)
 go_enter Tryz.func72,Tryz.ntmps72
 go_wp2_with fail
 refine wp_gen (fun v=>ArrAt v (w.heap.size+1) .u8 22 32 (fun _=>0)∧ArrAt v w.heap.size .u8 22 32 (fun _=>0)∧Below w.heap.size w v) ⟨g1,g0,hB⟩ ?_
 clear g1 g0 hB
 rintro v0 ⟨g1,g0,hB⟩
 refine wp_region3 (Below w.heap.size w) v0.heap.size
  [((w.heap.size+1),once (WA .u8 32 (fun _=>0)) 22 3 (WA .u8 32 (over (fun _=>0) 0 32 (sumF text)))),(w.heap.size,fixd (WA .u8 32 (fun _=>0)) 22)]
  [kv (.slice (some ⟨(w.heap.size+1),0,none⟩) 32 32),kv (.string text),kv (.string (mkS 32 (sumF text))),.val fun _=>True]
  [.none,.none,.none,.base 0 1]
  [some 4,some 5,some 6,some 7]
  [(3,.pointer (some ⟨(w.heap.size+1),0,none⟩)),(0,.string text)]
  [[],[],[.slot 1],[.slot 0,.slot 2,.base 0 0]]
  [.base 0 1,.base 1 0] [4,5,6,7]
  rfl (by kernel_rfl) ⟨rfl,rfl,trivial⟩ (Below.drew hB) (Nat.le_refl _) ⟨⟨g1.lt,obIn g1⟩,⟨g0.lt,obIn g0⟩,trivial⟩ ⟨⟨(show ((w.heap.size+1):Nat)≠w.heap.size from by omega),trivial⟩,trivial,trivial⟩ (below_G hB.size ⟨by omega,by omega,trivial⟩)
  ⟨
   (fun _ _ ww _ _ _ fr _=>sV (exec_sl (v:=.pointer (some ⟨(w.heap.size+1),0,none⟩)) rfl fr.1 (sl32w (w.heap.size+1) ww))),
   (fun _ _ _ _ _ _ fr _=>sV (exec_move rfl fr.2.1)),
   (fun _ _ ww _ _ _ _ kn=>.inl ⟨trivial,fun K hK=>stepc enterHash rfl (args3 rfl rfl kn.1) (HSM.out ww) (fun w' hb=>hK _ _ ⟨touch_below hb,rfl⟩)⟩),
   (fun _ _ _ _ _ _ _ kn=>.inl ⟨trivial,fun K hK=>act_copyS rfl kn.1 kn.2.1 (obAt kn.2.2.1) (fun j _=>outF_b _ j) (by omega) (by omega) (fun w2 hg ho=>hK _ _ ⟨⟨touch_only ho,obIn hg⟩,trivial⟩)⟩),
   trivial⟩ ?_
 intro vs own v1 hB1 hs1 kn inj
 clear inj g1 g0 hB
 have g1:ArrAt v1 (w.heap.size+1) .u8 22 32 (over (fun _=>0) 0 32 (sumF text)):=obAt kn.1
 have g0:ArrAt v1 w.heap.size .u8 22 32 (fun _=>0):=obAt kn.2.1
 have hB:=hB1
 clear kn hB1 hs1
 simp only[putAll,Act.put,List.setIfInBounds_toArray,List.set_cons_zero,List.set_cons_succ]
 replace g1:=g1.congr (s':=sumF text) (fun j hj=>by unfold over;rw[if_pos (by omega),Nat.sub_zero])
 go_wp2_with (first|(refine ld_arr isArr32 g1 (by rfl) ?_)|(refine st_arr isArr32 g0 (by rfl) (by rfl) ?_;intro v4 g4 o4;refine Hid.out ?_))
 refine Hid.mk ?_
 go_wp2_with fail
 exact bodyPost_ret (res_arr Tryz.results72 isArr32 g4 (by rfl)) rfl ⟨rfl,hB.trans (o4.below (Nat.le_refl _))⟩
def keyedT (size:Int) (key text:ByteArray):ByteArray×Int:=if 1≤size∧size≤32∧key.size≤32 then (hashT size.toNat key text,0) else (⟨#[]⟩,1)
theorem rKeyed_run (size:Int) (key text:ByteArray) (w:World) (ht:text.size≤562949953421312) :
  Calls Tryz.prog 66 #[.int .i64 size,.string key,.string text] w fun e w'=>e=.returned (.tuple #[.string (keyedT size key text).1,.int .i64 (keyedT size key text).2])∧Below w.heap.size w w':=by
 by_cases h1:size<1
 ·have HR:Hid (keyedT size key text=(⟨#[]⟩,1)):=Hid.mk (by unfold keyedT;rw[if_neg (fun h=>by omega)])
  generalize keyedT size key text=K at *
  go_enter Tryz.func66,Tryz.ntmps66
  go_wp2_with fail
  exact bodyPost_ret (v:=.tuple #[.string ⟨#[]⟩,.int .i64 1]) (results_two Tryz.results66 (by rfl) (by rfl)) rfl ⟨by rw[HR.out],Below.refl _ _⟩
 ·by_cases h2:32<size
  ·have HR:Hid (keyedT size key text=(⟨#[]⟩,1)):=Hid.mk (by unfold keyedT;rw[if_neg (fun h=>by omega)])
   generalize keyedT size key text=K at *
   go_enter Tryz.func66,Tryz.ntmps66
   go_wp2_with fail
   exact bodyPost_ret (v:=.tuple #[.string ⟨#[]⟩,.int .i64 1]) (results_two Tryz.results66 (by rfl) (by rfl)) rfl ⟨by rw[HR.out],Below.refl _ _⟩
  ·by_cases h3:32<key.size
   ·have HR:Hid (keyedT size key text=(⟨#[]⟩,1)):=Hid.mk (by unfold keyedT;rw[if_neg (fun h=>by omega)])
    have h3I:(32:Int)<(key.size:Int):=by omega
    generalize keyedT size key text=K at *
    go_enter Tryz.func66,Tryz.ntmps66
    go_wp2_with fail
    exact bodyPost_ret (v:=.tuple #[.string ⟨#[]⟩,.int .i64 1]) (results_two Tryz.results66 (by rfl) (by rfl)) rfl ⟨by rw[HR.out],Below.refl _ _⟩
   ·have HR:Hid (keyedT size key text=(hashT size.toNat key text,0)):=Hid.mk (by unfold keyedT;rw[if_pos (by omega)])
    have h3I:¬ (32:Int)<(key.size:Int):=by omega
    obtain ⟨n,rfl⟩:∃ n:Nat,size=(n:Int):=⟨size.toNat,by omega⟩
    have hH:=fun w=>rHash_run n key text w (by omega) (by omega) (by omega) ht
    rw[Int.toNat_natCast] at HR
    generalize keyedT (n:Int) key text=K at *
    generalize hashT n key text=Hs at *
    go_enter Tryz.func66,Tryz.ntmps66
    go_wp2_with fail
    refine (hH _).mono ?_
    rintro e v1 ⟨rfl,hb⟩
    go_wp2_with fail
    exact bodyPost_ret (v:=.tuple #[.string Hs,.int .i64 0]) (results_two Tryz.results66 (by rfl) (by rfl)) rfl ⟨by rw[HR.out],hb⟩
theorem enterSum (args:Array Value) (w:World):(callFunc 72 args).run Tryz.prog w=.ok (.enter 72 args) w:=by kernel_rfl
def padK (k:ByteArray) (c:Int) (i:Nat):Int:=xorw (txt k i) c
def keyM (key:ByteArray):ByteArray:=if 64<key.size then mkS 32 (sumF key) else key
def macF (key text:ByteArray):Nat→Int:=sumF (mkS 64 (padK (keyM key) 92)++mkS 32 (sumF (mkS 64 (padK (keyM key) 54)++text)))
def lstT (z:Nat→Int):Nat→ByteArray
 | 0=>⟨#[]⟩
 | i+1=>mkS 32 (macF (mkS 32 z) (lstT z i++mkS 1 fun _=>((i+1:Nat):Int)%256))
def chK (z:Nat→Int) (i:Nat):Nat→Int:=macF (mkS 32 z) (lstT z i++mkS 1 fun _=>((i+1:Nat):Int)%256)
theorem lstT_next (z:Nat→Int) (i:Nat):lstT z (i+1)=mkS 32 (chK z i):=rfl
theorem lstT_size (z:Nat→Int) (i:Nat):(lstT z i).size≤32:=by
 cases i with
 | zero=>exact Nat.zero_le _
 | succ i=>rw[lstT_next,mkS_size];omega
def rowsL (f:Nat→Nat→Int):Nat→List Value
 | 0=>[]
 | n+1=>rowsL f n++nums .u8 32 (f n)
theorem macF_b (key text:ByteArray) (j:Nat):0≤macF key text j∧macF key text j<256:=outF_b _ j
theorem infoRow:(Tryz.prog.info? 22).map (fun i=>(i.zero,i.size,i.bytes))=some (some (.agg (WA .u8 32 fun _=>0)),32,32):=by kernel_rfl
theorem run_bsR (s:Nat→Int) (w:World):(Instr.buildSlice 75 1 #[(0,.agg (WA .u8 32 s))]).run Tryz.prog w=.ok (.slice (some ⟨w.heap.size,0,none⟩) 1 1) (w.alloc (.cells (WA .u8 32 s) 22)):=by kernel_rfl
theorem wl_bsR {ops:Array Oper} {rest:List Oper} {d:Option Tmp} {x:Operand} {ty:TypeId} {ps:String} {af:Array Edge} {a:Act} {w:World} {Q:Exit→Act→World→Prop} {s:Nat→Int} (hx:a.eval x=.agg (WA .u8 32 s))
  (h:∀ w',ArrAt w' w.heap.size .u8 22 32 s→Below w.heap.size w w'→wpList Tryz.prog ops Q rest (a.put d (.slice (some ⟨w.heap.size,0,none⟩) 1 1)) w') :
  wpList Tryz.prog ops Q ({ dst:=d,op:=.buildSlice 75 1 #[(0,x)],type:=ty,pos:=ps,after:=af,guard:=none }::rest) a w:=by
 have hr:=run_bsR s w
 refine wl_act rfl ?_
 unfold Oper.wp execOp
 simp only[List.map_toArray,List.map_cons,List.map_nil,hx,Sem.run_bind,hr,Result.andThen_ok,Sem.run_pure,Oper.upon]
 exact h _ (heap_alloc_new w _) ((Below.refl _ _).alloc (Nat.le_refl _) _)
theorem act_bsB {o:Oper} {a:Act} {w:World} {K:Act→World→Prop} {Q:Exit→Act→World→Prop} {x:Operand} (ho:o.op=.buildSlice 81 1 #[(0,x)]) {n:Int} (hx:a.eval x=.int .u8 n)
  (h:∀ v,v.heap[w.heap.size]?=some (.cells (WA .u8 1 fun _=>n) 5 (0,0))→Below w.heap.size w v→K (a.put o.dst (.slice (some ⟨w.heap.size,0,none⟩) 1 1)) v):o.wp Tryz.prog a w K Q:=by
 have hr:=run_bsB n w
 unfold Oper.wp execOp
 simp only[ho,List.map_toArray,List.map_cons,List.map_nil,hx,Sem.run_bind,hr,Result.andThen_ok,Sem.run_pure,Oper.upon]
 exact h _ (heap_alloc_new w _) ((Below.refl _ _).alloc (Nat.le_refl _) _)
theorem ap_rows {ops:Array Oper} {rest:List Oper} {d:Option Tmp} {s x:Operand} {ty:TypeId} {ps:String} {af:Array Edge} {a:Act} {w:World} {Q:Exit→Act→World→Prop}
  {B k b:Nat} {xs:List Value} {v0:Value} {f:Nat→Int} (hs:a.eval s=v0) (hx:a.eval x=.slice (some ⟨b,0,none⟩) 1 1) (hD:w.ownsRow B 22 32 v0 k xs) (hg:ArrAt w b .u8 22 32 f) (hl:k<4000000) (hB:B≤w.heap.size)
  (h:∀ v' w',w'.ownsRow B 22 32 v' (k+1) (xs++nums .u8 32 f)→Below B w w'→(∀ q,q<w.heap.size→some q≠v0.ownBlock→w'.heap[q]?=w.heap[q]?)→wpList Tryz.prog ops Q rest (a.put d v') w') :
  wpList Tryz.prog ops Q ({ dst:=d,op:=.call { callee:=.builtin .append,args:=#[s,x],argTypes:=#[75,75] },type:=ty,pos:=ps,after:=af,guard:=none }::rest) a w:=by
 obtain ⟨i0,hi,hz0,hz1,hz2⟩:=info_parts infoRow
 refine wpList_append_own w rfl s x 75 rfl B 22 i0 (.agg (WA .u8 32 fun _=>0)) 32 32 Tryz.underlying75 hi hz0 hz1 hz2 (by show (WA .u8 32 fun _=>0).size=32;rw[WA_size]) (by decide) _ k _ hs hD ⟨b,0,none⟩ 1 1 (nums .u8 32 f) hx (by rw[nums_len]) ?_ nums_one ?_ ?_ hB ?_
 ·intro j u hj
  obtain ⟨hj2,rfl⟩:=nums_get hj
  rw[Addr.add_lit,Nat.zero_add]
  exact hg.cell j hj2
 ·unfold maxLen;omega
 ·omega
 ·intro v' w1 hown hgrow _
  exact h v' w1 hown (Below.grow hgrow hB (fun q hq=>(hD.lt q hq).1)) (fun q hq hne=>hgrow.block q hq hne)
theorem ownR_kept {w w':World} {B:Nat} {e:TypeId} {v:Value} {n:Nat} {xs:List Value} (h:w.ownsRow B e 32 v n xs) (hb:Below w.heap.size w w'):w'.ownsRow B e 32 v n xs:=by
 obtain ⟨h1,h2⟩:=h
 refine ⟨h1,?_⟩
 rcases h2 with h2 | ⟨g,cap,cur,rfl,hb1,hg,hr⟩
 ·exact .inl h2
 ·refine .inr ⟨g,cap,cur,rfl,hb1,?_,hr⟩
  rw[hb.block g (heap_lt hg)]
  exact hg
theorem sizeR (w:World):(sizeOf (Tryz.prog.elem 75)).run Tryz.prog w=.ok 32 w:=by kernel_rfl
theorem exec_idx32 {a:Act} {o:Oper} {w:World} {x y:Operand} (ho:o.op=.indexAddr 75 x y) {b n c i:Nat} (hx:a.eval x=.slice (some ⟨b,0,none⟩) n c) (hy:a.eval y=.int .i64 (i:Int)) (hi:i<n):(execOp a.eval o).run Tryz.prog w=.ok (.value (.pointer (some ⟨b,i*32,none⟩))) w:=by
 unfold execOp
 simp only[ho,hx,hy,Sem.run_bind]
 rw[run_indexAt_slice w 75 _ n c .i64 (i:Int) Tryz.underlying75,if_pos ⟨by omega,by omega⟩,sizeR]
 simp[Addr.add_lit]
structure RowsAt (w:World) (g n i:Nat) (f:Nat→Nat→Int):Prop where
 ex:∃ cur,w.heap[g]?=some (.cells cur 22 (0,0))∧n*32≤cur.size∧∀ j,i≤j→j<n→∀ q,q<32→cur[j*32+q]?=some (.int .u8 (f j q))
theorem RowsAt.range {w:World} {g n i j:Nat} {f:Nat→Nat→Int} (h:RowsAt w g n i f) (hi:i≤j) (hj:j<n):w.rangeAt g (j*32) (nums .u8 32 (f j)):=by
 obtain ⟨cur,h1,h2,h3⟩:=h.ex
 intro q v hq
 obtain ⟨hq2,rfl⟩:=nums_get hq
 rw[cell_of_row w g _ _ _ _ h1,h3 j hi hj q hq2]
theorem rowsL_at (f:Nat→Nat→Int):∀ n j,j<n→∀ q,q<32→(rowsL f n)[j*32+q]?=some (.int .u8 (f j q))
 | 0,j,h,_,_=>by omega
 | n+1,j,h,q,hq=>by
  have hl:(rowsL f n).length=n*32:=by
   have:∀ m,(rowsL f m).length=m*32:=fun m=>by
    induction m with
    | zero=>rfl
    | succ m ih=>rw[rowsL,List.length_append,nums_len,ih];omega
   exact this n
  rw[rowsL]
  by_cases e:j=n
  ·subst e
   rw[List.getElem?_append_right (by omega),hl,Nat.add_sub_cancel_left,nums_at .u8 32 _ hq]
  ·rw[List.getElem?_append_left (by omega)]
   exact rowsL_at f n j (by omega) q hq
theorem own_rows {w:World} {B n:Nat} {v:Value} {f:Nat→Nat→Int} (h:w.ownsRow B 22 32 v n (rowsL f n)) (hn:0<n):∃ g cap,v=.slice (some ⟨g,0,none⟩) n cap∧B≤g∧RowsAt w g n 0 f:=by
 rcases h.2 with ⟨_,h0⟩ | ⟨g,cap,cur,rfl,hb,hg,hc,_,hs,ht⟩
 ·omega
 ·refine ⟨g,cap,rfl,hb,cur,hg,by rw[hs];exact Nat.mul_le_mul_right _ hc,fun j _ hj q hq=>?_⟩
  have h1:=rowsL_at f n j hj q hq
  rw[← ht,List.getElem?_take,if_pos (by omega)] at h1
  simpa using h1
def dval (s:Nat→Int):Nat→Int
 | 0=>0
 | n+1=>dval s n+256 ^ n*s n
theorem p256 (n:Nat):(0:Int)<256 ^ n:=Int.pow_pos (by decide)
theorem dval_congr {s t:Nat→Int}:∀ {n:Nat},(∀ i,i<n→s i=t i)→dval s n=dval t n
 | 0,_=>rfl
 | n+1,h=>by unfold dval;rw[dval_congr (fun i hi=>h i (by omega)),h n (by omega)]
theorem dval_nonneg {s:Nat→Int}:∀ {n:Nat},(∀ i,i<n→0≤s i)→0≤dval s n
 | 0,_=>by simp[dval]
 | n+1,h=>by
  have h1:=dval_nonneg (n:=n) (fun i hi=>h i (by omega))
  have h2:=Int.mul_nonneg (Int.le_of_lt (p256 n)) (h n (by omega))
  unfold dval;omega
theorem dval_lt {s:Nat→Int}:∀ {n:Nat},(∀ i,i<n→0≤s i∧s i<256)→dval s n<256 ^ n
 | 0,_=>by simp[dval]
 | n+1,h=>by
  have h1:=dval_lt (n:=n) (fun i hi=>h i (by omega))
  have h2:=h n (by omega)
  have h3:(256:Int) ^ n*s n≤256 ^ n*255:=Int.mul_le_mul_of_nonneg_left (by omega) (Int.le_of_lt (p256 n))
  unfold dval
  rw[Int.pow_succ]
  omega
theorem dval_upd {s:Nat→Int} {i:Nat} {v:Int}:∀ {n:Nat},i<n→dval (upd s i v) n=dval s n+256 ^ i*(v-s i)
 | 0,h=>by omega
 | n+1,h=>by
  unfold dval
  by_cases e:i=n
  ·subst e
   rw[dval_congr (t:=s) (fun j hj=>by unfold upd;rw[if_neg (by omega)])]
   unfold upd
   rw[if_pos rfl,Int.mul_sub]
   omega
  ·rw[dval_upd (by omega)]
   unfold upd
   rw[if_neg (fun h=>e h.symm)]
   omega
theorem dval_tail {s:Nat→Int} {n:Nat}:∀ {m:Nat},n≤m→(∀ i,n≤i→i<m→s i=0)→dval s m=dval s n
 | 0,h,_=>by rw[show n=0 by omega]
 | m+1,h,hz=>by
  by_cases e:n=m+1
  ·rw[e]
  ·show dval s m+256 ^ m*s m=dval s n
   rw[dval_tail (m:=m) (by omega) (fun i h1 h2=>hz i h1 (by omega)),hz m (by omega) (by omega)]
   simp
theorem dval_shift (s:Nat→Int) (a:Nat):∀ (n:Nat),dval s (a+n)=dval s a+256 ^ a*dval (fun j=>s (a+j)) n
 | 0=>by simp[dval]
 | n+1=>by
  show dval s (a+n)+256 ^ (a+n)*s (a+n)=dval s a+256 ^ a*(dval (fun j=>s (a+j)) n+256 ^ n*s (a+n))
  rw[dval_shift s a n,Int.mul_add,Int.pow_add,Int.mul_assoc]
  omega
def pad (s:Nat→Int) (n:Nat) (i:Nat):Int:=if i<n then s i else 0
theorem dval_pad (s:Nat→Int) (n m:Nat) (h:n≤m):dval (pad s n) m=dval s n:=by
 rw[dval_tail h (fun i h1 _=>by unfold pad;rw[if_neg (by omega)])]
 exact dval_congr (fun i hi=>by unfold pad;rw[if_pos hi])
def Dg (m:Int) (n:Nat) (s:Nat→Int):Prop:=∀ i,i<n→0≤s i∧s i<m
structure Car (s:Nat→Int) (n k:Nat) (c:Int) (e:Nat→Int):Prop where
 dg:Dg 256 k e
 c0:0≤c
 c1:c<1099511627776
 late:∀ j,k=n+j→c*256 ^ j<1099511627776
 num:dval e k+256 ^ k*c=dval (pad s n) k
theorem Car.start (s:Nat→Int) (n:Nat) (e:Nat→Int):Car s n 0 0 e:=⟨fun i hi=>by omega,by omega,by omega,fun j _=>by simp,by simp[dval]⟩
theorem Car.step {s:Nat→Int} {n k:Nat} {c:Int} {e e':Nat→Int} (h:Car s n k c e) (hs:Dg 8796093022208 n s) (he:∀ i,i<k→e' i=e i) (hk:e' k=(c+pad s n k)%256):Car s n (k+1) ((c+pad s n k)/256) e':=by
 have hp:0≤pad s n k∧pad s n k<8796093022208:=by
  unfold pad
  split
  ·exact hs k (by assumption)
  ·omega
 have h0:=h.c0
 have h1:=h.c1
 refine ⟨fun i hi=>?_,by omega,by omega,fun j hj=>?_,?_⟩
 ·by_cases e1:i<k
  ·rw[he i e1];exact h.dg i e1
  ·rw[show i=k by omega,hk];omega
 ·cases j with
  | zero=>simp;omega
  | succ j =>
   have hl:=h.late j (by omega)
   have hz:pad s n k=0:=by unfold pad;rw[if_neg (by omega)]
   rw[hz,Int.add_zero,Int.pow_succ]
   have h2:c/256*256≤c:=by omega
   have h3:c/256*256*256 ^ j≤c*256 ^ j:=Int.mul_le_mul_of_nonneg_right h2 (Int.le_of_lt (p256 j))
   have h4:c/256*(256 ^ j*256)=c/256*256*256 ^ j:=by rw[Int.mul_comm (256 ^ j) 256,← Int.mul_assoc]
   omega
 ·show dval e' k+256 ^ k*e' k+_=dval (pad s n) k+256 ^ k*pad s n k
  rw[dval_congr he,hk,← h.num,Int.pow_succ]
  have e2:c+pad s n k=(c+pad s n k)%256+256*((c+pad s n k)/256):=by omega
  have e3:256 ^ k*(c+pad s n k)=256 ^ k*((c+pad s n k)%256)+256 ^ k*256*((c+pad s n k)/256):=by
   conv=>lhs;rw[e2]
   rw[Int.mul_add,Int.mul_assoc]
  rw[Int.mul_add] at e3
  omega
theorem Car.few {s:Nat→Int} {n k:Nat} {c:Int} {e:Nat→Int} (h:Car s n k c e) (hk:n+5≤k):c=0:=by
 have h0:=h.c0
 have hl:=h.late (k-n) (by omega)
 have hp:(256:Int) ^ 5≤256 ^ (k-n):=by
  obtain ⟨d,hd⟩:∃ d,k-n=5+d:=⟨k-n-5,by omega⟩
  rw[hd,Int.pow_add]
  have:=p256 d
  have h5:(256:Int) ^ 5*1≤256 ^ 5*256 ^ d:=Int.mul_le_mul_of_nonneg_left (by omega) (by decide)
  omega
 rcases Int.lt_or_le 0 c with hc | hc
 ·have h6:1*(256:Int) ^ 5≤c*256 ^ (k-n):=Int.mul_le_mul (by omega) hp (by decide) (by omega)
  have h7:(256:Int) ^ 5=1099511627776:=by decide
  omega
 ·omega
structure Cared (s:Nat→Int) (n m:Nat) (e:Nat→Int):Prop where
 dg:Dg 256 m e
 num:dval e m=dval s n
 lo:18≤m
 hi:m≤max (n+5) 18
theorem Car.done {s:Nat→Int} {n k:Nat} {e:Nat→Int} (h:Car s n k 0 e) (hn:n≤k) (h18:18≤k) (hh:k≤max (n+5) 18):Cared s n k e :=
 ⟨h.dg,by have:=h.num;rw[dval_pad s n k hn] at this;omega,h18,hh⟩
def P130:Int:=1361129467683753853853498429727072845819
def W130:Int:=1361129467683753853853498429727072845824
def hid (x:Nat→Int) (j:Nat):Int:=x (16+j)/4+x (17+j)%4*64
theorem hid_sum (x:Nat→Int) (hx:∀ i,0≤x i):∀ k,4*dval (hid x) k+x 16%4=dval (fun j=>x (16+j)) k+x (16+k)%4*256 ^ k
 | 0=>by simp[dval]
 | k+1=>by
  have ih:=hid_sum x hx k
  have h1:=hx (16+k)
  unfold dval
  rw[Int.mul_add,Int.pow_succ]
  have e1:4*(256 ^ k*hid x k)=256 ^ k*(4*hid x k):=by rw[← Int.mul_assoc,Int.mul_comm 4,Int.mul_assoc]
  have e2:4*hid x k=x (16+k)-x (16+k)%4+256*(x (17+k)%4):=by unfold hid;omega
  have e3:256 ^ k*(x (16+k)-x (16+k)%4+256*(x (17+k)%4))=256 ^ k*x (16+k)-x (16+k)%4*256 ^ k+x (17+k)%4*(256 ^ k*256):=by
   rw[Int.mul_add,Int.mul_sub,Int.mul_comm (256 ^ k) (x (16+k)%4),← Int.mul_assoc,Int.mul_comm (256 ^ k*256)]
  rw[e1,e2,e3,show 16+(k+1)=17+k by omega]
  omega
theorem pow16:(256:Int) ^ 16=340282366920938463463374607431768211456:=by decide
theorem hid_split (x:Nat→Int) (m:Nat) (hm:16≤m) (hx:Dg 256 m x) :
  dval x m=(dval x 16+340282366920938463463374607431768211456*(pad x m 16%4))+W130*dval (hid (pad x m)) (m-16)∧0≤dval x 16+340282366920938463463374607431768211456*(pad x m 16%4)∧dval x 16+340282366920938463463374607431768211456*(pad x m 16%4)<W130:=by
 have hp:∀ i,0≤pad x m i:=fun i=>by
  unfold pad
  split
  ·exact (hx i (by assumption)).1
  ·omega
 have h:=hid_sum (pad x m) hp (m-16)
 have hz:pad x m (16+(m-16))=0:=by unfold pad;rw[if_neg (by omega)]
 rw[hz] at h
 have hs:=dval_shift (pad x m) 16 (m-16)
 rw[show 16+(m-16)=m by omega,dval_pad x m m (Nat.le_refl _),pow16] at hs
 have e16:dval (pad x m) 16=dval x 16:=dval_congr (fun i hi=>by unfold pad;rw[if_pos (by omega)])
 rw[e16] at hs
 have h1:=dval_nonneg (s:=x) (n:=16) (fun i hi=>(hx i (by omega)).1)
 have h2:=dval_lt (s:=x) (n:=16) (fun i hi=>hx i (by omega))
 rw[pow16] at h2
 unfold W130
 simp only[Int.zero_emod,Int.zero_mul,Int.add_zero] at h
 refine ⟨?_,by omega,by omega⟩
 rw[hs]
 omega
theorem cat_snoc (k:Nat) (e:Nat→Int) (d:Int):(∀ i,i<k→cat k e (fun _=>d) i=e i)∧cat k e (fun _=>d) k=d:=by
 constructor
 ·intro i hi
  unfold cat
  rw[if_pos hi]
 ·unfold cat
  rw[if_neg (by omega)]
theorem carried_run (s:Nat→Int) (n b cp:Nat) (w:World) (hR:RowAt w b .i64 3 n s) (hs:Dg 8796093022208 n s) (hn:n≤100) :
  Calls Tryz.prog 193 #[.slice (some ⟨b,0,none⟩) n cp,.int .i64 18] w fun r w'=>∃ g c m e,r=.returned (.slice (some ⟨g,0,none⟩) m c)∧Cared s n m e∧w'.ownsRow w.heap.size 3 1 (.slice (some ⟨g,0,none⟩) m c) m (nums .i64 m e)∧Below w.heap.size w w':=by
 have hb:=hR.lt
 go_enter Tryz.func193,Tryz.ntmps193
 go_wp2_with fail
 go_loopg [5,6,7] (max (n+5) 18) (fun m v cv iv wr=>∃ (k:Nat) (c:Int) (e:Nat→Int),Hid (m+k=max (n+5) 18)∧cv=.int .i64 c∧iv=.int .i64 (k:Int)∧Hid (Car s n k c e)∧wr.ownsRow w.heap.size 3 1 v k (nums .i64 k e)∧Below w.heap.size w wr)
 case atStart=>exact ⟨0,0,fun _=>0,Hid.mk (by omega),rfl,rfl,Hid.mk (Car.start s n _),World.ownsRow_nil w _ _ _,Below.refl _ _⟩
 case round =>
  obtain ⟨k,c,e,HM,rfl,rfl,HC,hO,hB⟩:=hrel
  have hc0:=HC.out.c0
  have hc1:=HC.out.c1
  have hkm:k≤max (n+5) 18:=by have:=HM.out;omega
  by_cases hlt:k<n
  ·have cx:=(hR.below hB hb).cell k hlt
   have hx0:=(hs k hlt).1
   have hx1:=(hs k hlt).2
   have hkm2:k<max (n+5) 18:=by omega
   have HS:Hid (∀ e':Nat→Int,(∀ i,i<k→e' i=e i)→e' k=(c+s k)%256→Car s n (k+1) ((c+s k)/256) e'):=Hid.mk (fun e' h1 h2=>by
    have hp:pad s n k=s k:=by unfold pad;rw[if_pos hlt]
    have:=HC.out.step (e':=e') hs h1 (by rw[hp];exact h2)
    rw[hp] at this
    exact this)
   generalize s k=x at *
   go_wp2_with (at_builtin;refine ap_own rfl _ _ 171 3 .i64 8 Tryz.underlying171 infoInt (by decide) (by rfl) (n:=k) (m:=1) (by rfl) (own_kept hO ((Below.refl _ wr).alloc (Nat.le_refl _) _)) (by rfl) (r:=fun _=>(c+x)%256) (fun j hj=>by obtain rfl:j=0:=(by omega);exact cell_of_row _ _ 0 _ _ _ (heap_alloc_new wr _)) (by omega) (hB.alloc hB.size _).size ?_;intro v2 w2 h2 hb2;refine Hid.out ?_)
   have CS:=HS.out _ (cat_snoc k e ((c+x)%256)).1 (cat_snoc k e ((c+x)%256)).2
   have HC2:=Hid.mk CS
   have hB2:=(hB.alloc hB.size (.cells #[.int .i64 ((c+x)%256)] 3)).trans hb2
   clear HS CS hb2 hO HC
   refine Hid.mk ?_
   go_wp2_with fail
   go_roundg (max (n+5) 18-(k+1))
   case rel=>exact ⟨k+1,_,_,Hid.mk (by omega),rfl,by go_num,HC2,h2,hB2⟩
   case measure=>have:=HM.out;omega
  ·have hpz:pad s n k=0:=by unfold pad;rw[if_neg (by omega)]
   by_cases hcp:0<c
   ·have hkm2:k<max (n+5) 18:=by
     rcases Nat.lt_or_ge k (n+5) with h | h
     ·omega
     ·have:=HC.out.few h
      omega
    have HS:Hid (∀ e':Nat→Int,(∀ i,i<k→e' i=e i)→e' k=c%256→Car s n (k+1) (c/256) e'):=Hid.mk (fun e' h1 h2=>by
     have:=HC.out.step (e':=e') hs h1 (by rw[hpz,Int.add_zero];exact h2)
     rw[hpz,Int.add_zero] at this
     exact this)
    go_wp2_with (at_builtin;refine ap_own rfl _ _ 171 3 .i64 8 Tryz.underlying171 infoInt (by decide) (by rfl) (n:=k) (m:=1) (by rfl) (own_kept hO ((Below.refl _ wr).alloc (Nat.le_refl _) _)) (by rfl) (r:=fun _=>c%256) (fun j hj=>by obtain rfl:j=0:=(by omega);exact cell_of_row _ _ 0 _ _ _ (heap_alloc_new wr _)) (by omega) (hB.alloc hB.size _).size ?_;intro v2 w2 h2 hb2;refine Hid.out ?_)
    have CS:=HS.out _ (cat_snoc k e (c%256)).1 (cat_snoc k e (c%256)).2
    have HC2:=Hid.mk CS
    have hB2:=(hB.alloc hB.size (.cells #[.int .i64 (c%256)] 3)).trans hb2
    clear HS CS hb2 hO HC
    refine Hid.mk ?_
    go_wp2_with fail
    go_roundg (max (n+5) 18-(k+1))
    case rel=>exact ⟨k+1,_,_,Hid.mk (by omega),rfl,by go_num,HC2,h2,hB2⟩
    case measure=>have:=HM.out;omega
   ·have hcz:c=0:=by omega
    subst hcz
    by_cases h18:k<18
    ·have HS:Hid (∀ e':Nat→Int,(∀ i,i<k→e' i=e i)→e' k=0→Car s n (k+1) 0 e'):=Hid.mk (fun e' h1 h2=>by
      have:=HC.out.step (e':=e') hs h1 (by rw[hpz];exact h2)
      rw[hpz] at this
      exact this)
     go_wp2_with (at_builtin;refine ap_own rfl _ _ 171 3 .i64 8 Tryz.underlying171 infoInt (by decide) (by rfl) (n:=k) (m:=1) (by rfl) (own_kept hO ((Below.refl _ wr).alloc (Nat.le_refl _) _)) (by rfl) (r:=fun _=>0) (fun j hj=>by obtain rfl:j=0:=(by omega);exact cell_of_row _ _ 0 _ _ _ (heap_alloc_new wr _)) (by omega) (hB.alloc hB.size _).size ?_;intro v2 w2 h2 hb2;refine Hid.out ?_)
     have CS:=HS.out _ (cat_snoc k e (0)).1 (cat_snoc k e (0)).2
     have HC2:=Hid.mk CS
     have hB2:=(hB.alloc hB.size (.cells #[.int .i64 (0)] 3)).trans hb2
     clear HS CS hb2 hO HC
     refine Hid.mk ?_
     go_wp2_with fail
     go_roundg (max (n+5) 18-(k+1))
     case rel=>exact ⟨k+1,_,_,Hid.mk (by omega),rfl,by go_num,HC2,h2,hB2⟩
     case measure=>have:=HM.out;omega
    ·have hD:=HC.out.done (by omega) (by omega) hkm
     obtain ⟨g,cg,rfl,hg1,hg2,hg3⟩:=own_row hO (by omega)
     go_wp2_with fail
     go_ret
     exact ⟨g,cg,k,rfl,e,hD,hO,hB⟩
theorem dval_one {s:Nat→Int} {i:Nat}:∀ {n:Nat},(∀ j,j<n→0≤s j)→i<n→256 ^ i*s i≤dval s n
 | 0,_,h=>by omega
 | n+1,hs,h=>by
  have h0:=dval_nonneg (s:=s) (n:=n) (fun j hj=>hs j (by omega))
  unfold dval
  by_cases e:i=n
  ·subst e;omega
  ·have h1:=dval_one (n:=n) (fun j hj=>hs j (by omega)) (show i<n by omega)
   have h2:=Int.mul_nonneg (Int.le_of_lt (p256 n)) (hs n (by omega))
   omega
theorem dval_comp (e:Nat→Int):∀ n,dval (fun i=>255-e i) n=256 ^ n-1-dval e n
 | 0=>by simp[dval]
 | n+1=>by
  unfold dval
  rw[dval_comp e n,Int.mul_sub,Int.pow_succ]
  omega
theorem least_iff {e:Nat→Int} {m:Nat} (hm:18≤m) (he:Dg 256 m e) (hX:dval e m<W130) :
  (e 16=3∧251≤e 0∧∀ i,1≤i→i<16→e i=255)↔P130≤dval e m:=by
 have hlt:=hX
 have h17:dval e m=dval e 17:=by
  refine dval_tail (by omega) (fun i h1 h2=>?_)
  have h3:=dval_one (s:=e) (fun j hj=>(he j hj).1) h2
  have h4:=he i h2
  rcases Int.lt_or_le 0 (e i) with h | h
  ·exfalso
   have h5:(256:Int) ^ 17≤256 ^ i:=by
    obtain ⟨d,hd⟩:∃ d,i=17+d:=⟨i-17,by omega⟩
    rw[hd,Int.pow_add]
    have:=p256 d
    have h6:(256:Int) ^ 17*1≤256 ^ 17*256 ^ d:=Int.mul_le_mul_of_nonneg_left (by omega) (by decide)
    omega
   have h6:(256:Int) ^ i*1≤256 ^ i*e i:=Int.mul_le_mul_of_nonneg_left (by omega) (Int.le_of_lt (p256 i))
   have h7:(256:Int) ^ 17=87112285931760246646623899502532662132736:=by decide
   unfold W130 at hlt
   omega
  ·omega
 have e17:dval e 17=dval e 16+340282366920938463463374607431768211456*e 16:=by
  show dval e 16+256 ^ 16*e 16=_
  rw[pow16]
 have hc:=dval_comp e 16
 rw[pow16] at hc
 have h16:=he 16 (by omega)
 have hn:=dval_nonneg (s:=fun i=>255-e i) (n:=16) (fun i hi=>by have:=he i (by omega);omega)
 have hl:=dval_nonneg (s:=e) (n:=16) (fun i hi=>(he i (by omega)).1)
 unfold W130 at hlt
 unfold P130
 rw[h17,e17] at hlt ⊢
 constructor
 ·rintro ⟨h1,h2,h3⟩
  have hz:dval (fun i=>255-e i) 16=255-e 0:=by
   have:=dval_tail (s:=fun i=>255-e i) (n:=1) (m:=16) (by omega) (fun i h4 h5=>by have:=h3 i h4 h5;omega)
   rw[this]
   simp[dval]
  omega
 ·intro hge
  have h163:e 16=3:=by omega
  have hsm:dval (fun i=>255-e i) 16≤4:=by omega
  have hnn:∀ j,j<16→0≤255-e j:=fun j hj=>by have:=he j (by omega);omega
  refine ⟨h163,?_,fun i h1 h2=>?_⟩
  ·have:=dval_one (s:=fun i=>255-e i) (i:=0) (n:=16) hnn (by omega)
   simp at this
   omega
  ·have h3:=dval_one (s:=fun i=>255-e i) (i:=i) (n:=16) hnn h2
   have h4:=hnn i h2
   rcases Int.lt_or_le 0 (255-e i) with h | h
   ·exfalso
    have h5:(256:Int) ^ 1≤256 ^ i:=by
     obtain ⟨d,hd⟩:∃ d,i=1+d:=⟨i-1,by omega⟩
     rw[hd,Int.pow_add]
     have:=p256 d
     have h6:(256:Int) ^ 1*1≤256 ^ 1*256 ^ d:=Int.mul_le_mul_of_nonneg_left (by omega) (by decide)
     omega
    have h6:(256:Int) ^ i*1≤256 ^ i*(255-e i):=Int.mul_le_mul_of_nonneg_left (by omega) (Int.le_of_lt (p256 i))
    simp at h5
    omega
   ·have:=he i (by omega)
    omega
theorem least_val {e:Nat→Int} {m:Nat} (hm:18≤m) (he:Dg 256 m e) (hX:dval e m<W130) (h1:e 16=3) (h3:∀ i,1≤i→i<16→e i=255):dval e m=W130-256+e 0:=by
 have hc:=dval_comp e 16
 rw[pow16] at hc
 have hz:dval (fun i=>255-e i) 16=255-e 0:=by
  have:=dval_tail (s:=fun i=>255-e i) (n:=1) (m:=16) (by omega) (fun i h4 h5=>by have:=h3 i h4 h5;omega)
  rw[this]
  simp[dval]
 have h17:dval e 17=dval e 16+340282366920938463463374607431768211456*e 16:=by
  show dval e 16+256 ^ 16*e 16=_
  rw[pow16]
 have hs:=dval_shift e 17 (m-17)
 rw[show 17+(m-17)=m by omega] at hs
 have hn:=dval_nonneg (s:=fun j=>e (17+j)) (n:=m-17) (fun i hi=>(he (17+i) (by omega)).1)
 have hp:(256:Int) ^ 17=87112285931760246646623899502532662132736:=by decide
 have h0:=he 0 (by omega)
 rw[hp] at hs
 unfold W130 at *
 omega
theorem hid_b {x:Nat→Int} {m:Nat} (hx:Dg 256 m x) (j:Nat):0≤hid (pad x m) j∧hid (pad x m) j<256:=by
 have hp:∀ i,0≤pad x m i∧pad x m i<256:=fun i=>by
  unfold pad
  split
  ·exact hx i (by assumption)
  ·omega
 have h1:=hp (16+j)
 have h2:=hp (17+j)
 unfold hid
 omega
theorem own_set {w:World} {B g c:Nat} {e:TypeId} {n:Nat} {k:IntKind} {s:Nat→Int} (h:w.ownsRow B e 1 (.slice (some ⟨g,0,none⟩) n c) n (nums k n s)) (i:Nat) (v:Int) (hi:i<n):(w.setCell ⟨g,i,none⟩ (.int k v)).ownsRow B e 1 (.slice (some ⟨g,0,none⟩) n c) n (nums k n (upd s i v)):=by
 have h1:=(World.ownsRow.stored h i (.int k v)).1
 have e1:(nums k n s).set i (.int k v)=nums k n (upd s i v):=by
  apply List.ext_getElem?
  intro j
  rw[List.getElem?_set]
  by_cases hj:i=j
  ·subst hj
   rw[if_pos rfl,if_pos (by rw[nums_len];exact hi),nums_at k n _ hi]
   simp[upd]
  ·rw[if_neg hj]
   by_cases h2:j<n
   ·rw[nums_at k n s h2,nums_at k n _ h2]
    unfold upd
    rw[if_neg (fun h=>hj h.symm)]
   ·rw[List.getElem?_eq_none (by rw[nums_len];omega),List.getElem?_eq_none (by rw[nums_len];omega)]
 rw[e1] at h1
 exact h1
end Go.Proofs.YthghcjepdhkfdaaGreatDoor
