/-
  Own text. What take of the document's answer for blake does.
-/
import Derived.Test.YthghcjepdhkfdaaGreatDoorJB2
set_option maxHeartbeats 16000000
set_option maxRecDepth 100000
open Int renaming tdiv_eq_ediv_of_nonneg→Ac8,tmod_eq_emod_of_nonneg→Acz
open List renaming getD_eq_getElem?_getD→AcG,getElem?_eq_none→Ac7,getElem?_take→AcM,map_cons→Acu,map_nil→Acq,map_toArray→Acs,setIfInBounds_toArray→Aci,set_cons_succ→Ach,set_cons_zero→Acj
open Nat renaming add_sub_cancel_left→Ac0,le_refl→Acg,le_trans→Acp,lt_of_lt_of_le→AcH,zero_add→Acl
namespace Go.Proofs.YthghcjepdhkfdaaGreatDoor
open Go.RowKit Go.Proofs
open Tryz
theorem Yn(n:Int)(w:World):(Instr.buildSlice 171 1 #[(0,.int .i64 n)]).run prog w=.ok (.slice (some ⟨w.heap.size,0,none⟩) 1 1) (w.alloc (.cells #[.int .i64 n] 3)):=by simp[go_sem]
theorem Yo{o:Oper}{a:Act}{w:World}{K:Act→World→Prop}{Q:Exit→Act→World→Prop}{x:Operand}(ho:o.op=.buildSlice 171 1 #[(0,x)]){n:Int}(hx:a.eval x=.int .i64 n)(h:∀v,v.heap[w.heap.size]?=some (.cells (WA .i64 1 fun _=>n) 3 (0,0))→Below w.heap.size w v→K (a.put o.dst (.slice (some ⟨w.heap.size,0,none⟩) 1 1)) v):o.wp prog a w K Q:=by
 have hr:=Yn n w;unfold Oper.wp execOp;simp only[ho,Acs,Acu,Acq,hx,Sem.run_bind,hr,Result.andThen_ok,Sem.run_pure,Oper.upon];exact h _ (heap_alloc_new w _) ((Below.refl _ _).alloc (Acg _) _)
theorem MB(f r:Nat→Int):∀i,i<0+8→cat 0 f r i=r i:=fun i _=>by simp[cat]
theorem B8{b:Nat}{u v:World}(h:Touch (fun _=>False) u v):Touch (fun x=>x=b) u v:=h.mono (fun _ _ h=>h.elim)
theorem RowAt.touch{w w':World}{g b:Nat}{k:IntKind}{t:TypeId}{n:Nat}{s:Nat→Int}(h:RowAt w g k t n s)(ht:Touch (fun x=>x=b) w w')(hg:g≠b):RowAt w' g k t n s:=h.block (ht.block g h.lt hg)
theorem Id(h V0:Nat→Int)(t:Int)(h0:∀q,q<16→V0 q=if q<8 then h q else bgn (q-8)):∀i,i<16→upd (upd V0 12 (Ap (V0 12) (t%4294967296))) 13 (Ap (upd V0 12 (Ap (V0 12) (t%4294967296)) 13) (t/4294967296)) i=Bv h t false i:=fun i hi=>by
 have h12:V0 12=bgn 4:=h0 12 (by omega);have h13:V0 13=bgn 5:=h0 13 (by omega);unfold upd Bv
 by_cases e13:i=13
 ·subst e13;simp[h13]
 ·by_cases e12:i=12
  ·subst e12;simp[h12]
  ·simp[e12,e13,h0 i hi]
theorem GZ(h V2:Nat→Int)(t:Int)(h0:∀q,q<16→V2 q=Bv h t false q):∀i,i<16→upd V2 14 (Ap (V2 14) 4294967295) i=Bv h t true i:=fun i hi=>by
 have h14:V2 14=bgn 6:=h0 14 (by omega);unfold upd
 by_cases e14:i=14
 ·subst e14;rw[if_pos rfl,h14];rfl
 ·rw[if_neg e14,h0 i hi]
  unfold Bv;simp[e14]
theorem JQ(w:World):Calls prog 174 #[] w fun e w'=>∃bo,e=.returned (.slice (some ⟨bo+10,0,none⟩) 10 10)∧w.heap.size≤bo∧(∀s,s<10→w'.cell? ⟨bo+10,s,none⟩=some (.slice (some ⟨bo+s,0,none⟩) 16 16)∧ArrAt w' (bo+s) .i64 3 16 (ordI s))∧Below w.heap.size w w':=
 (PT w).mono fun _ _ ⟨h1,h2,h3⟩=>⟨w.heap.size,h1,Acg _,h2,h3⟩
theorem Ha(bh ch bb cb:Nat)(h s:Nat→Int)(t:Int)(last:Bool)(w:World)(hH:RowAt w bh .i64 3 8 h)(hS:RowAt w bb .u8 5 64 s)(hh:∀i,i<8→W32 (h i))(hs:Byts 64 s)(ht:0≤t∧t<4611686018427387904):Calls prog 145 #[.slice (some ⟨bh,0,none⟩) 8 ch,.slice (some ⟨bb,0,none⟩) 64 cb,.int .i64 t,.bool last] w fun e w' => e=.returned (.tuple #[])∧RowAt w' bh .i64 3 8 (Bh h s t last)∧(∀i,i<8→W32 (Bh h s t last i))∧Touch (fun k=>k=bh) w w':=by
 have HSB:=Hid.mk hs;go_enter func145,ntmps145;go_wp2_with fail
 go_loopg [8,9] 16 (fun gm mv iv v=>∃i:Nat,Hid (gm+i=16)∧iv=.int .i64 (i:Int)∧v.ownsRow w.heap.size 3 1 mv i (AC .i64 i (bwd s))∧Below w.heap.size w v)
 case atStart=>exact⟨0,Hid.mk rfl,rfl,World.ownsRow_nil _ _ _ _,Below.refl _ _⟩
 case round =>
  obtain⟨i,HI,rfl,hO,hB⟩:=hrel;have hi16:i≤16:=by have:=HI.out;omega
  by_cases hil:i<16
  ·go_wp2_with fail
   refine AJ (fun v=>v.ownsRow w.heap.size 3 1 u8 i (AC .i64 i (bwd s))∧Below w.heap.size w v) ⟨hO,hB⟩ ?_;clear hO hB;rintro v0 ⟨hO,hB⟩;have HS:Hid (∀u,Below v0.heap.size v0 u→RowAt u bb .u8 5 64 s):=Hid.mk (fun u hu=>hS.below (hB.trans (hu.mono hB.size)) hS.lt);refine Cv 35 rfl (by kernel_rfl) (CB (Below v0.heap.size v0) v0.heap.size
    ([]:List (Nat×Cont))
    (kv (u8)::kv (.slice (some ⟨bb,0,none⟩) 64 cb)::kv (.int .i64 ((i:Nat):Int))::kv (.int .i64 ((4*(i):Nat):Int))::kv (.pointer (some ⟨bb,0+(4*(i)),none⟩))::kv (.int .u8 (s (4*(i))))::kv (.int .i64 (s (4*(i))))::kv (.slice (some ⟨bb,0,none⟩) 64 cb)::kv (.int .i64 ((i:Nat):Int))::kv (.int .i64 ((4*(i):Nat):Int))::kv (.int .i64 ((4*(i)+1:Nat):Int))::kv (.pointer (some ⟨bb,0+(4*(i)+1),none⟩))::kv (.int .u8 (s (4*(i)+1)))::kv (.int .i64 (s (4*(i)+1)))::kv (.int .i64 (256*s (4*(i)+1)))::kv (.int .i64 (s (4*(i))+256*s (4*(i)+1)))::kv (.slice (some ⟨bb,0,none⟩) 64 cb)::kv (.int .i64 ((i:Nat):Int))::kv (.int .i64 ((4*(i):Nat):Int))::kv (.int .i64 ((4*(i)+2:Nat):Int))::kv (.pointer (some ⟨bb,0+(4*(i)+2),none⟩))::kv (.int .u8 (s (4*(i)+2)))::kv (.int .i64 (s (4*(i)+2)))::kv (.int .i64 (65536*s (4*(i)+2)))::kv (.int .i64 (s (4*(i))+256*s (4*(i)+1)+65536*s (4*(i)+2)))::kv (.slice (some ⟨bb,0,none⟩) 64 cb)::kv (.int .i64 ((i:Nat):Int))::kv (.int .i64 ((4*(i):Nat):Int))::kv (.int .i64 ((4*(i)+3:Nat):Int))::kv (.pointer (some ⟨bb,0+(4*(i)+3),none⟩))::kv (.int .u8 (s (4*(i)+3)))::kv (.int .i64 (s (4*(i)+3)))::kv (.int .i64 (16777216*s (4*(i)+3)))::kv (.int .i64 (s (4*(i))+256*s (4*(i)+1)+65536*s (4*(i)+2)+16777216*s (4*(i)+3)))::ks 1 (WA .i64 1 fun _=>s (4*(i))+256*s (4*(i)+1)+65536*s (4*(i)+2)+16777216*s (4*(i)+3)) 3::[])
    []
    (some 21::some 22::some 23::some 24::some 25::some 26::some 27::some 28::some 29::some 30::some 31::some 32::some 33::some 34::some 35::some 36::some 37::some 38::some 39::some 40::some 41::some 42::some 43::some 44::some 45::some 46::some 47::some 48::some 49::some 50::some 51::some 52::some 53::some 54::some 55::[])
    [(8,u8),(1,.slice (some ⟨bb,0,none⟩) 64 cb),(9,.int .i64 ((i:Nat):Int))]
    ([]::[]::[]::[.slot 2]::[.slot 1,.slot 3]::[.slot 4]::[.slot 5]::[]::[]::[.slot 8]::[.slot 9]::[.slot 7,.slot 10]::[.slot 11]::[.slot 12]::[.slot 13]::[.slot 6,.slot 14]::[]::[]::[.slot 17]::[.slot 18]::[.slot 16,.slot 19]::[.slot 20]::[.slot 21]::[.slot 22]::[.slot 15,.slot 23]::[]::[]::[.slot 26]::[.slot 27]::[.slot 25,.slot 28]::[.slot 29]::[.slot 30]::[.slot 31]::[.slot 24,.slot 32]::[.slot 33]::[])
    [.slot 0,.slot 34,.cont 34 0] (21::22::23::24::25::26::27::28::29::30::31::32::33::34::35::36::37::38::39::40::41::42::43::44::45::46::47::48::49::50::51::52::53::54::55::[])
    (by kernel_rfl) ⟨rfl,rfl,rfl,trivial⟩ (Below.refl _ v0).drew (Acg _) trivial trivial (A8 (Acg _) trivial)
    ⟨
     sL fun f _=>sV (Ab rfl f.1),
     sL fun f _=>sV (Ab rfl f.2.1),
     sL fun f _=>sV (Ab rfl f.2.2.1),
     sL fun _ k=>sV (Cf (m:=4) rfl rfl k.1 (by omega)),
     sL fun _ k=>sV (An rfl underlying81 Ex k.1 k.2.1 (by omega)),
     (fun _ _ ww _ hS _ _ kn=>sV (At rfl kn.1 (D3 (Oo (HS.out ww hS) (by omega))))),
     sL fun _ k=>sV (AF rfl k.1 (Kv (HSB.out (4*(i)) (by omega)) _)),
     sL fun f _=>sV (Ab rfl f.2.1),
     sL fun f _=>sV (Ab rfl f.2.2.1),
     sL fun _ k=>sV (Cf (m:=4) rfl rfl k.1 (by omega)),
     sL fun _ k=>sV (AG (n:=1) rfl k.1 rfl (by omega)),
     sL fun _ k=>sV (An rfl underlying81 Ex k.1 k.2.1 (by omega)),
     (fun _ _ ww _ hS _ _ kn=>sV (At rfl kn.1 (D3 (Oo (HS.out ww hS) (by omega))))),
     sL fun _ k=>sV (AF rfl k.1 (Kv (HSB.out (4*(i)+1) (by omega)) _)),
     sL fun _ k=>sV (Gw (m:=256) rfl rfl k.1 (by have:=HSB.out (4*(i)+1) (by omega);omega) (by have:=HSB.out (4*(i)+1) (by omega);omega)),
     sL fun _ k=>sV (BO rfl k.1 k.2.1 (by have h0:=HSB.out (4*(i)) (by omega);have h1:=HSB.out (4*(i)+1) (by omega);omega) (by have h0:=HSB.out (4*(i)) (by omega);have h1:=HSB.out (4*(i)+1) (by omega);omega)),
     sL fun f _=>sV (Ab rfl f.2.1),
     sL fun f _=>sV (Ab rfl f.2.2.1),
     sL fun _ k=>sV (Cf (m:=4) rfl rfl k.1 (by omega)),
     sL fun _ k=>sV (AG (n:=2) rfl k.1 rfl (by omega)),
     sL fun _ k=>sV (An rfl underlying81 Ex k.1 k.2.1 (by omega)),
     (fun _ _ ww _ hS _ _ kn=>sV (At rfl kn.1 (D3 (Oo (HS.out ww hS) (by omega))))),
     sL fun _ k=>sV (AF rfl k.1 (Kv (HSB.out (4*(i)+2) (by omega)) _)),
     sL fun _ k=>sV (Gw (m:=65536) rfl rfl k.1 (by have:=HSB.out (4*(i)+2) (by omega);omega) (by have:=HSB.out (4*(i)+2) (by omega);omega)),
     sL fun _ k=>sV (BO rfl k.1 k.2.1 (by have h0:=HSB.out (4*(i)) (by omega);have h1:=HSB.out (4*(i)+1) (by omega);have h2:=HSB.out (4*(i)+2) (by omega);omega) (by have h0:=HSB.out (4*(i)) (by omega);have h1:=HSB.out (4*(i)+1) (by omega);have h2:=HSB.out (4*(i)+2) (by omega);omega)),
     sL fun f _=>sV (Ab rfl f.2.1),
     sL fun f _=>sV (Ab rfl f.2.2.1),
     sL fun _ k=>sV (Cf (m:=4) rfl rfl k.1 (by omega)),
     sL fun _ k=>sV (AG (n:=3) rfl k.1 rfl (by omega)),
     sL fun _ k=>sV (An rfl underlying81 Ex k.1 k.2.1 (by omega)),
     (fun _ _ ww _ hS _ _ kn=>sV (At rfl kn.1 (D3 (Oo (HS.out ww hS) (by omega))))),
     sL fun _ k=>sV (AF rfl k.1 (Kv (HSB.out (4*(i)+3) (by omega)) _)),
     sL fun _ k=>sV (Gw (m:=16777216) rfl rfl k.1 (by have:=HSB.out (4*(i)+3) (by omega);omega) (by have:=HSB.out (4*(i)+3) (by omega);omega)),
     sL fun _ k=>sV (BO rfl k.1 k.2.1 (by have h0:=HSB.out (4*(i)) (by omega);have h1:=HSB.out (4*(i)+1) (by omega);have h2:=HSB.out (4*(i)+2) (by omega);have h3:=HSB.out (4*(i)+3) (by omega);omega) (by have h0:=HSB.out (4*(i)) (by omega);have h1:=HSB.out (4*(i)+1) (by omega);have h2:=HSB.out (4*(i)+2) (by omega);have h3:=HSB.out (4*(i)+3) (by omega);omega)),
     sL fun _ k=>.inl ⟨trivial,fun K hK=>Yo rfl k.1 (fun v hg hb=>hK _ _ ⟨Ac hb,_,Acg _,rfl,Al hg⟩)⟩,
     trivial⟩ ?_)
   intro vs own v5 hB5 hs5 kn inj;clear inj hs5;have e21:vs 21=u8:=kn.1;obtain⟨e55,hb55,_⟩:=kn.2.1;change vs 55=_ at e55;have g55:ArrAt v5 (own 34) .i64 3 1 (fun _=>bwd s i):=Ak kn.2.2.1;clear kn;generalize own 34=bo at *;replace hO:=Bp hO hB5;replace hB:=hB.trans (hB5.mono hB.size);have HBS:=Hid.mk hB.size;clear hB5;show wpList prog _ _ (_::_::[]) _ _;simp only[Am,Act.put,Aci,Acj,Ach,e21,e55]
   go_wp2_with (at_builtin;refine Db rfl _ _ 171 3 .i64 8 underlying171 B1 (by decide) (by rfl) (n:=i) (m:=1) (by rfl) hO (by rfl) (r:=fun _=>bwd s i) (fun j hj=>by rw[Acl];exact g55.cell j hj) (by omega) HBS.out ?_;intro vb v6 h6 hb6;refine Hid.out ?_)
   rw[B2 (DV i (bwd s))] at h6;replace hB:=hB.trans hb6;clear hb6 hO g55 HS HBS e21 e55 hb55;refine Hid.mk ?_;go_wp2_with fail
   go_roundg (16-(i+1))
   case rel=>exact⟨i+1,Hid.mk (by omega),by go_num,h6,hB⟩
   case measure=>have:=HI.out;omega
  ·have hi2:i=16:=by omega
   subst hi2;obtain⟨bm,cm,rfl,hbm,hcm,hM⟩:=CU hO (by decide);clear hO hil hi16 HI
   cases last with
   | false =>
    have HR:Hid (∀j,j<8→(wr.alloc (.cells #[] 3)).cell? ⟨bh,0+j,none⟩=some (.int .i64 (h j))):=Hid.mk (fun j hj=>by rw[Acl];exact((hH.below hB hH.lt).alloc _).cell j hj)
    go_wp2_with (at_builtin;refine I3 rfl _ _ 171 3 .i64 8 underlying171 B1 (by decide) (by rfl) (n:=0) (m:=8) (f:=h) (by rfl) (fun j hj=>by omega) (by rfl) (r:=h) HR.out (by decide) (by decide) ?_;intro va v1 h1 hb1;refine Hid.out ?_)
    clear HR;rw[B2 (MB h h)] at h1;have hz1:wr.heap.size+1≤v1.heap.size:=by have:=hb1.size;simpa using this
    replace h1:v1.ownsRow (wr.heap.size+1) 3 1 va 8 (AC .i64 8 h):=by simpa using h1
    have hb1':Below wr.heap.size wr v1:=((Below.refl _ wr).alloc (Acg _) _).trans (hb1.mono (by simp));clear hb1;refine Hid.mk ?_;go_wp2_with fail;refine(Jv _).mono ?_;rintro e v2 ⟨rfl,gB,hb2⟩;replace h1:=Bp h1 hb2;have HZ2:Hid (wr.heap.size+1≤v2.heap.size):=Hid.mk (by have:=hb2.size;omega);have hb2':Below wr.heap.size wr v2:=hb1'.trans (hb2.mono (by omega));clear hb2 hb1'
    go_wp2_with (at_builtin;refine Db rfl _ _ 171 3 .i64 8 underlying171 B1 (by decide) (by rfl) (n:=8) (m:=8) (by rfl) h1 (by rfl) (r:=bgn) (fun j hj=>by rw[Acl];exact gB.cell j hj) (by decide) HZ2.out ?_;intro vb v3 h3 hb3;refine Hid.out ?_)
    have hb3':Below wr.heap.size wr v3:=hb2'.trans (hb3.mono (by omega));clear hb3 hb2' gB h1 HZ2;obtain⟨bv,cv,rfl,hbv,hcv,hV⟩:=CU h3 (by decide);clear h3
    have W0:∀i,i<16→W32 (cat 8 h bgn i):=fun i hi=>by
     unfold cat
     split
     ·exact hh i (by omega)
     ·exact Gh _
    have HQ0:Hid (∀q,q<16→cat 8 h bgn q=if q<8 then h q else bgn (q-8)):=Hid.mk (fun q _=>rfl);replace hV:RowAt v3 bv .i64 3 16 (cat 8 h bgn):=hV;generalize cat 8 h bgn=V0 at *;have hbv':wr.heap.size<bv:=by omega
    clear hbv;have hMv:=hM.below hb3' hM.lt;have hHv:=(hH.below hB hH.lt).below hb3' (AcH hH.lt hB.size);have hB3:=hB.trans (hb3'.mono hB.size);have hzz:bm<wr.heap.size:=hM.lt;have hzh:bh<w.heap.size:=hH.lt;have hzw:=hB.size;clear hM hb3' hB;have e1:t.tmod 4294967296=t%4294967296:=Acz ht.1;have e2:t.tdiv 4294967296=t/4294967296:=Ac8 ht.1;have T1:W32 (t%4294967296):=by unfold W32;omega
    have T2:W32 (t/4294967296):=by unfold W32;omega
    have c12:=hV.cell 12 (by omega);have f12:=hV.free 12 (by omega);have x12:bits .xor .i64 (V0 12) (t%4294967296)=Ap (V0 12) (t%4294967296):=Ep (W0 12 (by omega)) T1;have hV1:=hV.set 12 (Ap (V0 12) (t%4294967296));have o12:Only bv v3 _:=only_set (w:=v3) (g:=bv) (i:=12) (v:=.int .i64 (Ap (V0 12) (t%4294967296)));have W1:∀i,i<16→W32 (upd V0 12 (Ap (V0 12) (t%4294967296)) i):=Bd W0 (A9 (W0 12 (by omega)) T1);obtain⟨V1,hV1e⟩:∃V1,V1=upd V0 12 (Ap (V0 12) (t%4294967296)):=⟨_,rfl⟩;rw[←hV1e] at hV1 W1;have c13:=hV1.cell 13 (by omega);have f13:=hV1.free 13 (by omega);have x13:bits .xor .i64 (V1 13) (t/4294967296)=Ap (V1 13) (t/4294967296):=Ep (W1 13 (by omega)) T2;have hV2:=hV1.set 13 (Ap (V1 13) (t/4294967296));have o13:Only bv _ _:=only_set (w:=(v3.setCell ⟨bv,12,none⟩ (.int .i64 (Ap (V0 12) (t%4294967296))))) (g:=bv) (i:=13) (v:=.int .i64 (Ap (V1 13) (t/4294967296)));have W2:∀i,i<16→W32 (upd V1 13 (Ap (V1 13) (t/4294967296)) i):=Bd W1 (A9 (W1 13 (by omega)) T2);obtain⟨V2,hV2e⟩:∃V2,V2=upd V1 13 (Ap (V1 13) (t/4294967296)):=⟨_,rfl⟩;rw[←hV2e] at hV2 W2;have TT:=(Ag o12).trans (Ag o13);have HV1e:=Hid.mk hV1e;have HV2e:=Hid.mk hV2e;clear hV1e hV2e o12 o13 hV hV1;have HB2:=Hid.mk (Id h V0 t HQ0.out);replace hV2:=hV2.mono (Acg _) (s':=Bv h t false) (fun i hi=>by rw[HV2e.out,HV1e.out];exact HB2.out i hi);replace W2:∀i,i<16→W32 (Bv h t false i):=fun i hi=>by rw[←HB2.out i hi,←HV1e.out,←HV2e.out];exact W2 i hi
    clear HV2e HB2;refine Hid.mk ?_;go_wp2_with fail;refine(JQ _).mono ?_;rintro e v5 ⟨bo,rfl,hbo,hord,hb5⟩;replace hbo:v3.heap.size≤bo:=by simpa using hbo
    have hV5:RowAt v5 bv .i64 3 16 (Bv h t false):=hV2.below hb5 hV2.lt;have hM5:RowAt v5 bm .i64 3 16 (bwd s):=(hMv.touch TT (by omega)).below hb5 (hMv.touch TT (by omega)).lt;have hH5:RowAt v5 bh .i64 3 8 h:=(hHv.touch TT (by omega)).below hb5 (hHv.touch TT (by omega)).lt;have hlv:bv<bo:=by have:=hV2.lt;simp at this;omega
    have hB5:Below w.heap.size w v5:=(hB3.trans (CC TT (by omega) hB3.size)).trans (hb5.mono (by simp;exact hB3.size));clear hV2 hMv hHv hB3 hb5 TT c12 c13 f12 f13 x12 x13 e1 e2 T1 T2 W0 W1 HQ0 HV1e;have WV0:Hid (∀i,i<16→W32 (Bv h t false i)):=Hid.mk W2;clear W2;go_wp2_with fail;generalize wr=wo at *
    go_loopg [12] 10 (fun gm iv v=>∃k:Nat,Hid (gm+k=10)∧iv=.int .i64 (k:Int)∧RowAt v bv .i64 3 16 (CK (bwd s) (Bv h t false) k)∧Hid (∀i,i<16→W32 (CK (bwd s) (Bv h t false) k i))∧Touch (fun x=>x=bv) v5 v)
    case atStart=>exact⟨0,Hid.mk rfl,rfl,hV5,WV0,Touch.refl _ _⟩
    case round =>
     obtain⟨k,HK,rfl,hV,HW,hT⟩:=hrel;have hk10:k≤10:=by have:=HK.out;omega
     by_cases hk:k<10
     ·have hcell:wr.cell? ⟨bo+10,k,none⟩=some (.slice (some ⟨bo+k,0,none⟩) 16 16):=by
       rw[←(hord k hk).1];exact World.cell?_of_block (hT.block (bo+10) (World.block_lt_of_cell? _ _ (hord k hk).1) (by omega))
      have hord5:RowAt v5 (bo+k) .i64 3 16 (ordI k):=(hord k hk).2.row;have HN:Hid (Kr (bwd s) k (IA (bwd s) k (CK (bwd s) (Bv h t false) k) 4) 4=CK (bwd s) (Bv h t false) (k+1)):=Hid.mk rfl;generalize CK (bwd s) (Bv h t false) k=X at *;have hd:decide ((k:Int)<10)=true:=by simp;omega
      go_wp2_with fail;generalize wr=wo1 at *;clear hcell
      go_loopg [14] 4 (fun gm iv v=>∃j:Nat,Hid (gm+j=4)∧iv=.int .i64 (j:Int)∧RowAt v bv .i64 3 16 (IA (bwd s) k X j)∧Hid (∀i,i<16→W32 (IA (bwd s) k X j i))∧Touch (fun x=>x=bv) v5 v)
      case atStart=>exact⟨0,Hid.mk rfl,rfl,hV,HW,hT⟩
      case round =>
       clear hV HW hT;obtain⟨j,HJ,rfl,hV,HW,hT⟩:=hrel;have hj4:j≤4:=by have:=HJ.out;omega
       by_cases hj:j<4
       ·have hWV:=HW.out
        clear HW;have o1:=FK k hk (2*j) (by omega);have o2:=FK k hk (2*j+1) (by omega);go_wp2_with fail;refine AJ (fun v=>RowAt v bv .i64 3 16 (IA (bwd s) k X j)∧Touch (fun x=>x=bv) v5 v) ⟨hV,hT⟩ ?_;clear hV hT;rintro v0 ⟨hV,hT⟩;have HOR:Hid (∀u,Below v0.heap.size v0 u→RowAt u (bo+k) .i64 3 16 (ordI k)):=Hid.mk (fun u hu=>(hord5.touch hT (by omega)).below hu (hord5.touch hT (by omega)).lt);have HM:Hid (∀u,Below v0.heap.size v0 u→RowAt u bm .i64 3 16 (bwd s)):=Hid.mk (fun u hu=>(hM5.touch hT (by omega)).below hu (hM5.touch hT (by omega)).lt);refine Cv 25 rfl (by kernel_rfl) (CB (Below v0.heap.size v0) v0.heap.size
         ([]:List (Nat×Cont))
         [kv (.slice (some ⟨bv,0,none⟩) 16 cv),kv (.int .i64 ((j:Nat):Int)),kv (.int .i64 ((j:Nat):Int)),kv (.int .i64 ((4+j:Nat):Int)),kv (.int .i64 ((j:Nat):Int)),kv (.int .i64 ((8+j:Nat):Int)),kv (.int .i64 ((j:Nat):Int)),kv (.int .i64 ((12+j:Nat):Int)),kv (.slice (some ⟨bm,0,none⟩) 16 cm),kv (.slice (some ⟨bo+k,0,none⟩) 16 16),kv (.int .i64 ((j:Nat):Int)),kv (.int .i64 ((2*(j):Nat):Int)),kv (.pointer (some ⟨bo+k,0+(2*(j)),none⟩)),kv (.int .i64 (((ord k (2*(j)):Nat):Int))),kv (.pointer (some ⟨bm,0+(ord k (2*(j))),none⟩)),kv (.int .i64 (bwd s (ord k (2*(j))))),kv (.slice (some ⟨bm,0,none⟩) 16 cm),kv (.slice (some ⟨bo+k,0,none⟩) 16 16),kv (.int .i64 ((j:Nat):Int)),kv (.int .i64 ((2*(j):Nat):Int)),kv (.int .i64 ((2*(j)+1:Nat):Int)),kv (.pointer (some ⟨bo+k,0+(2*(j)+1),none⟩)),kv (.int .i64 (((ord k (2*(j)+1):Nat):Int))),kv (.pointer (some ⟨bm,0+(ord k (2*(j)+1)),none⟩)),kv (.int .i64 (bwd s (ord k (2*(j)+1))))]
         []
         [some 98,some 99,some 100,some 101,some 102,some 103,some 104,some 105,some 106,some 107,some 108,some 109,some 110,some 111,some 112,some 113,some 114,some 115,some 116,some 117,some 118,some 119,some 120,some 121,some 122]
         [(10,.slice (some ⟨bv,0,none⟩) 16 cv),(8,.slice (some ⟨bm,0,none⟩) 16 cm),(13,.slice (some ⟨bo+k,0,none⟩) 16 16),(14,.int .i64 ((j:Nat):Int))]
         [[],[],[],[.slot 2],[],[.slot 4],[],[.slot 6],[],[],[],[.slot 10],[.slot 9,.slot 11],[.slot 12],[.slot 8,.slot 13],[.slot 14],[],[],[],[.slot 18],[.slot 19],[.slot 17,.slot 20],[.slot 21],[.slot 16,.slot 22],[.slot 23]]
         [.slot 0,.slot 1,.slot 3,.slot 5,.slot 7,.slot 15,.slot 24] [98,99,100,101,102,103,104,105,106,107,108,109,110,111,112,113,114,115,116,117,118,119,120,121,122]
         (by kernel_rfl) ⟨rfl,rfl,rfl,rfl,trivial⟩ (Below.refl _ v0).drew (Acg _) trivial trivial (A8 (Acg _) trivial)
         ⟨
          sL fun f _=>sV (Ab rfl f.1),
          sL fun f _=>sV (Ab rfl f.2.2.2.1),
          sL fun f _=>sV (Ab rfl f.2.2.2.1),
          sL fun _ k=>sV (AG (m:=4) rfl rfl k.1 (by omega)),
          sL fun f _=>sV (Ab rfl f.2.2.2.1),
          sL fun _ k=>sV (AG (m:=8) rfl rfl k.1 (by omega)),
          sL fun f _=>sV (Ab rfl f.2.2.2.1),
          sL fun _ k=>sV (AG (m:=12) rfl rfl k.1 (by omega)),
          sL fun f _=>sV (Ab rfl f.2.1),
          sL fun f _=>sV (Ab rfl f.2.2.1),
          sL fun f _=>sV (Ab rfl f.2.2.2.1),
          sL fun _ k=>sV (Cf (m:=2) rfl rfl k.1 (by omega)),
          sL fun _ k=>sV (An rfl underlying171 As k.1 k.2.1 (by omega)),
          (fun _ _ ww _ hS _ _ kn=>sV (At rfl kn.1 (Aw (Ba (HOR.out ww hS) (by omega))))),
          sL fun _ k=>sV (An rfl underlying171 As k.1 k.2.1 (by omega)),
          (fun _ _ ww _ hS _ _ kn=>sV (At rfl kn.1 (Aw (Ba (HM.out ww hS) (by omega))))),
          sL fun f _=>sV (Ab rfl f.2.1),
          sL fun f _=>sV (Ab rfl f.2.2.1),
          sL fun f _=>sV (Ab rfl f.2.2.2.1),
          sL fun _ k=>sV (Cf (m:=2) rfl rfl k.1 (by omega)),
          sL fun _ k=>sV (AG (n:=1) rfl k.1 rfl (by omega)),
          sL fun _ k=>sV (An rfl underlying171 As k.1 k.2.1 (by omega)),
          (fun _ _ ww _ hS _ _ kn=>sV (At rfl kn.1 (Aw (Ba (HOR.out ww hS) (by omega))))),
          sL fun _ k=>sV (An rfl underlying171 As k.1 k.2.1 (by omega)),
          (fun _ _ ww _ hS _ _ kn=>sV (At rfl kn.1 (Aw (Ba (HM.out ww hS) (by omega))))),
          trivial⟩ ?_)
        intro vs own v6 hB6 hs6 kn inj;clear inj hs6;have e98:vs 98=_:=kn.1;have e99:vs 99=_:=kn.2.1;have e101:vs 101=_:=kn.2.2.1;have e103:vs 103=_:=kn.2.2.2.1;have e105:vs 105=_:=kn.2.2.2.2.1;have e113:vs 113=_:=kn.2.2.2.2.2.1;have e122:vs 122=_:=kn.2.2.2.2.2.2.1;clear kn HOR HM;replace hV:=hV.below hB6 hV.lt;replace hT:=hT.trans (B8 (Ac hB6));clear hB6;show wpList prog _ _ (_::[]) _ _;simp only[Am,Act.put,Aci,Acj,Ach,e98,e99,e101,e103,e105,e113,e122];go_wp2_with fail;refine(I8 bv 16 cv _ j (4+j) (8+j) (12+j) (bwd s (ord k (2*j))) (bwd s (ord k (2*j+1))) _ hV hWV (by omega) (by omega) (by omega) (by omega) (JP HSB.out (by omega)) (JP HSB.out (by omega))).mono ?_;rintro e v7 ⟨rfl,hV7,hW7,hT7⟩;replace hT:=hT.trans hT7;clear hT7 hV hWV;go_wp2_with fail
        go_roundg (4-(j+1))
        case rel=>exact⟨j+1,Hid.mk (by omega),by go_num,hV7,Hid.mk hW7,hT⟩
        case measure=>have:=HJ.out;omega
       ·have hj2:j=4:=by omega
        subst hj2;clear hj hj4 HJ;generalize IA (bwd s) k X 4=Y at *;go_wp2_with fail;rw[show ((4:Nat):Int)=4 from rfl];generalize wr=wo2 at *
        go_loopg [15] 4 (fun gm iv v=>∃j:Nat,Hid (gm+j=4)∧iv=.int .i64 (j:Int)∧RowAt v bv .i64 3 16 (Kr (bwd s) k Y j)∧Hid (∀i,i<16→W32 (Kr (bwd s) k Y j i))∧Touch (fun x=>x=bv) v5 v)
        case atStart=>exact⟨0,Hid.mk rfl,rfl,hV,HW,hT⟩
        case round =>
         clear hV HW hT;obtain⟨j,HJ,rfl,hV,HW,hT⟩:=hrel;have hj4:j≤4:=by have:=HJ.out;omega
         by_cases hj:j<4
         ·have hWV:=HW.out
          clear HW;have o1:=FK k hk (8+2*j) (by omega);have o2:=FK k hk (9+2*j) (by omega);go_wp2_with fail;refine AJ (fun v=>RowAt v bv .i64 3 16 (Kr (bwd s) k Y j)∧Touch (fun x=>x=bv) v5 v) ⟨hV,hT⟩ ?_;clear hV hT;rintro v0 ⟨hV,hT⟩;have HOR:Hid (∀u,Below v0.heap.size v0 u→RowAt u (bo+k) .i64 3 16 (ordI k)):=Hid.mk (fun u hu=>(hord5.touch hT (by omega)).below hu (hord5.touch hT (by omega)).lt);have HM:Hid (∀u,Below v0.heap.size v0 u→RowAt u bm .i64 3 16 (bwd s)):=Hid.mk (fun u hu=>(hM5.touch hT (by omega)).below hu (hM5.touch hT (by omega)).lt);refine Cv 32 rfl (by kernel_rfl) (CB (Below v0.heap.size v0) v0.heap.size
           ([]:List (Nat×Cont))
           (kv (.slice (some ⟨bv,0,none⟩) 16 cv)::kv (.int .i64 ((j:Nat):Int))::kv (.int .i64 ((j:Nat):Int))::kv (.int .i64 ((j+1:Nat):Int))::kv (.int .i64 (((j+1)%4:Nat):Int))::kv (.int .i64 ((4+(j+1)%4:Nat):Int))::kv (.int .i64 ((j:Nat):Int))::kv (.int .i64 ((j+2:Nat):Int))::kv (.int .i64 (((j+2)%4:Nat):Int))::kv (.int .i64 ((8+(j+2)%4:Nat):Int))::kv (.int .i64 ((j:Nat):Int))::kv (.int .i64 ((j+3:Nat):Int))::kv (.int .i64 (((j+3)%4:Nat):Int))::kv (.int .i64 ((12+(j+3)%4:Nat):Int))::kv (.slice (some ⟨bm,0,none⟩) 16 cm)::kv (.slice (some ⟨bo+k,0,none⟩) 16 16)::kv (.int .i64 ((j:Nat):Int))::kv (.int .i64 ((2*(j):Nat):Int))::kv (.int .i64 ((8+2*(j):Nat):Int))::kv (.pointer (some ⟨bo+k,0+(8+2*(j)),none⟩))::kv (.int .i64 (((ord k (8+2*(j)):Nat):Int)))::kv (.pointer (some ⟨bm,0+(ord k (8+2*(j))),none⟩))::kv (.int .i64 (bwd s (ord k (8+2*(j)))))::kv (.slice (some ⟨bm,0,none⟩) 16 cm)::kv (.slice (some ⟨bo+k,0,none⟩) 16 16)::kv (.int .i64 ((j:Nat):Int))::kv (.int .i64 ((2*(j):Nat):Int))::kv (.int .i64 ((9+2*(j):Nat):Int))::kv (.pointer (some ⟨bo+k,0+(9+2*(j)),none⟩))::kv (.int .i64 (((ord k (9+2*(j)):Nat):Int)))::kv (.pointer (some ⟨bm,0+(ord k (9+2*(j))),none⟩))::kv (.int .i64 (bwd s (ord k (9+2*(j)))))::[])
           []
           (some 128::some 129::some 130::some 131::some 132::some 133::some 134::some 135::some 136::some 137::some 138::some 139::some 140::some 141::some 142::some 143::some 144::some 145::some 146::some 147::some 148::some 149::some 150::some 151::some 152::some 153::some 154::some 155::some 156::some 157::some 158::some 159::[])
           [(10,.slice (some ⟨bv,0,none⟩) 16 cv),(8,.slice (some ⟨bm,0,none⟩) 16 cm),(13,.slice (some ⟨bo+k,0,none⟩) 16 16),(15,.int .i64 ((j:Nat):Int))]
           ([]::[]::[]::[.slot 2]::[.slot 3]::[.slot 4]::[]::[.slot 6]::[.slot 7]::[.slot 8]::[]::[.slot 10]::[.slot 11]::[.slot 12]::[]::[]::[]::[.slot 16]::[.slot 17]::[.slot 15,.slot 18]::[.slot 19]::[.slot 14,.slot 20]::[.slot 21]::[]::[]::[]::[.slot 25]::[.slot 26]::[.slot 24,.slot 27]::[.slot 28]::[.slot 23,.slot 29]::[.slot 30]::[])
           [.slot 0,.slot 1,.slot 5,.slot 9,.slot 13,.slot 22,.slot 31] (128::129::130::131::132::133::134::135::136::137::138::139::140::141::142::143::144::145::146::147::148::149::150::151::152::153::154::155::156::157::158::159::[])
           (by kernel_rfl) ⟨rfl,rfl,rfl,rfl,trivial⟩ (Below.refl _ v0).drew (Acg _) trivial trivial (A8 (Acg _) trivial)
           ⟨
            sL fun f _=>sV (Ab rfl f.1),
            sL fun f _=>sV (Ab rfl f.2.2.2.1),
            sL fun f _=>sV (Ab rfl f.2.2.2.1),
            sL fun _ k=>sV (AG (n:=1) rfl k.1 rfl (by omega)),
            sL fun _ k=>sV (DP (n:=4) rfl k.1 rfl (by omega)),
            sL fun _ k=>sV (AG (m:=4) rfl rfl k.1 (by omega)),
            sL fun f _=>sV (Ab rfl f.2.2.2.1),
            sL fun _ k=>sV (AG (n:=2) rfl k.1 rfl (by omega)),
            sL fun _ k=>sV (DP (n:=4) rfl k.1 rfl (by omega)),
            sL fun _ k=>sV (AG (m:=8) rfl rfl k.1 (by omega)),
            sL fun f _=>sV (Ab rfl f.2.2.2.1),
            sL fun _ k=>sV (AG (n:=3) rfl k.1 rfl (by omega)),
            sL fun _ k=>sV (DP (n:=4) rfl k.1 rfl (by omega)),
            sL fun _ k=>sV (AG (m:=12) rfl rfl k.1 (by omega)),
            sL fun f _=>sV (Ab rfl f.2.1),
            sL fun f _=>sV (Ab rfl f.2.2.1),
            sL fun f _=>sV (Ab rfl f.2.2.2.1),
            sL fun _ k=>sV (Cf (m:=2) rfl rfl k.1 (by omega)),
            sL fun _ k=>sV (AG (m:=8) rfl rfl k.1 (by omega)),
            sL fun _ k=>sV (An rfl underlying171 As k.1 k.2.1 (by omega)),
            (fun _ _ ww _ hS _ _ kn=>sV (At rfl kn.1 (Aw (Ba (HOR.out ww hS) (by omega))))),
            sL fun _ k=>sV (An rfl underlying171 As k.1 k.2.1 (by omega)),
            (fun _ _ ww _ hS _ _ kn=>sV (At rfl kn.1 (Aw (Ba (HM.out ww hS) (by omega))))),
            sL fun f _=>sV (Ab rfl f.2.1),
            sL fun f _=>sV (Ab rfl f.2.2.1),
            sL fun f _=>sV (Ab rfl f.2.2.2.1),
            sL fun _ k=>sV (Cf (m:=2) rfl rfl k.1 (by omega)),
            sL fun _ k=>sV (AG (m:=9) rfl rfl k.1 (by omega)),
            sL fun _ k=>sV (An rfl underlying171 As k.1 k.2.1 (by omega)),
            (fun _ _ ww _ hS _ _ kn=>sV (At rfl kn.1 (Aw (Ba (HOR.out ww hS) (by omega))))),
            sL fun _ k=>sV (An rfl underlying171 As k.1 k.2.1 (by omega)),
            (fun _ _ ww _ hS _ _ kn=>sV (At rfl kn.1 (Aw (Ba (HM.out ww hS) (by omega))))),
            trivial⟩ ?_)
          intro vs own v6 hB6 hs6 kn inj;clear inj hs6;have e128:vs 128=_:=kn.1;have e129:vs 129=_:=kn.2.1;have e133:vs 133=_:=kn.2.2.1;have e137:vs 137=_:=kn.2.2.2.1;have e141:vs 141=_:=kn.2.2.2.2.1;have e150:vs 150=_:=kn.2.2.2.2.2.1;have e159:vs 159=_:=kn.2.2.2.2.2.2.1;clear kn HOR HM;replace hV:=hV.below hB6 hV.lt;replace hT:=hT.trans (B8 (Ac hB6));clear hB6;show wpList prog _ _ (_::[]) _ _;simp only[Am,Act.put,Aci,Acj,Ach,e128,e129,e133,e137,e141,e150,e159];go_wp2_with fail;refine(I8 bv 16 cv _ j (4+(j+1)%4) (8+(j+2)%4) (12+(j+3)%4) (bwd s (ord k (8+2*j))) (bwd s (ord k (9+2*j))) _ hV hWV (by omega) (by omega) (by omega) (by omega) (JP HSB.out (by omega)) (JP HSB.out (by omega))).mono ?_;rintro e v7 ⟨rfl,hV7,hW7,hT7⟩;replace hT:=hT.trans hT7;clear hT7 hV hWV;go_wp2_with fail
          go_roundg (4-(j+1))
          case rel=>exact⟨j+1,Hid.mk (by omega),by go_num,hV7,Hid.mk hW7,hT⟩
          case measure=>have:=HJ.out;omega
         ·have hj2:j=4:=by omega
          subst hj2;clear hj hj4 HJ;rw[HN.out] at hV HW;go_wp2_with fail
          go_roundg (10-(k+1))
          case rel=>exact⟨k+1,Hid.mk (by omega),by go_num,hV,HW,hT⟩
          case measure=>have:=HK.out;omega
     ·have hk2:k=10:=by omega
      subst hk2;have HTF:Hid (∀q,Bh h s t false q=Ap (Ap (h q) (CK (bwd s) (Bv h t false) 10 q)) (CK (bwd s) (Bv h t false) 10 (q+8))):=Hid.mk (fun _=>rfl);generalize CK (bwd s) (Bv h t false) 10=vt at *;have hHr:=hH5.touch hT (by omega);have hTw:Touch (fun x=>x=bh) w wr:=B8 ⟨hT.os.trans hB5.os,hT.tape.trans hB5.tape,hT.output.trans hB5.output,Acp hB5.size hT.size,fun q hq _=>(hT.block q (AcH hq hB5.size) (by omega)).trans (hB5.block q hq)⟩;clear hT hk hk10 HK;go_wp2_with fail;rw[show ((10:Nat):Int)=10 from rfl];generalize wr=wo3 at *
      go_loopg [16] 8 (fun gm iv v=>∃j:Nat,Hid (gm+j=8)∧iv=.int .i64 (j:Int)∧RowAt v bh .i64 3 8 (fun q=>if q<j then Bh h s t false q else h q)∧RowAt v bv .i64 3 16 vt∧Touch (fun x=>x=bh) w v)
      case atStart=>exact⟨0,Hid.mk rfl,rfl,hHr.mono (Acg _) (fun q _=>by rw[if_neg (by omega)]),hV,hTw⟩
      case round =>
       clear hHr hV hTw;obtain⟨j,HJ,rfl,hHj,hV,hT⟩:=hrel;have hj8:j≤8:=by have:=HJ.out;omega
       by_cases hj:j<8
       ·have HW1:Hid (W32 (if j<j then Bh h s t false j else h j)):=Hid.mk (by rw[if_neg (by omega)];exact hh j hj)
        have HNX:Hid (∀q,q<8→upd (fun q=>if q<j then Bh h s t false q else h q) j (Ap (Ap (if j<j then Bh h s t false j else h j) (vt j)) (vt (j+8))) q=(fun q=>if q<j+1 then Bh h s t false q else h q) q):=Hid.mk (fun q _=>by
         unfold upd
         by_cases e:q=j
         ·subst e
          show (if q=q then _ else _)=(if q<q+1 then Bh h s t false q else h q);rw[if_pos rfl,if_neg (by omega),if_pos (by omega),HTF.out]
         ·show (if q=j then _ else _)=(if q<j+1 then Bh h s t false q else h q)
          rw[if_neg e];show (if q<j then Bh h s t false q else h q)=_
          by_cases h2:q<j
          ·rw[if_pos h2,if_pos (by omega)]
          ·rw[if_neg h2,if_neg (by omega)])
        have HWT:=HW;generalize hhc:(fun q=>if q<j then Bh h s t false q else h q)=hc at *;replace HW1:Hid (W32 (hc j)):=by rw[←hhc];exact HW1
        replace HNX:Hid (∀q,q<8→upd hc j (Ap (Ap (hc j) (vt j)) (vt (j+8))) q=(fun q=>if q<j+1 then Bh h s t false q else h q) q):=by rw[←hhc];rw[←hhc] at HNX;exact HNX
        clear hhc;go_wp2_with fail;refine AJ (fun v=>RowAt v bh .i64 3 8 hc∧RowAt v bv .i64 3 16 vt∧Touch (fun x=>x=bh) w v) ⟨hHj,hV,hT⟩ ?_;clear hHj hV hT;rintro v0 ⟨hHj,hV,hT⟩;have HH:Hid (∀u,Below v0.heap.size v0 u→RowAt u bh .i64 3 8 hc):=Hid.mk (fun u hu=>hHj.below hu hHj.lt);have HV:Hid (∀u,Below v0.heap.size v0 u→RowAt u bv .i64 3 16 vt):=Hid.mk (fun u hu=>hV.below hu hV.lt);refine Cv 18 rfl (by kernel_rfl) (CB (Below v0.heap.size v0) v0.heap.size
         ([]:List (Nat×Cont))
         [kv (.slice (some ⟨bh,0,none⟩) 8 ch),kv (.int .i64 ((j:Nat):Int)),kv (.slice (some ⟨bh,0,none⟩) 8 ch),kv (.int .i64 ((j:Nat):Int)),kv (.pointer (some ⟨bh,0+(j),none⟩)),kv (.int .i64 (hc j)),kv (.slice (some ⟨bv,0,none⟩) 16 cv),kv (.int .i64 ((j:Nat):Int)),kv (.pointer (some ⟨bv,0+(j),none⟩)),kv (.int .i64 (vt j)),kv (.int .i64 (Ap (hc j) (vt j))),kv (.slice (some ⟨bv,0,none⟩) 16 cv),kv (.int .i64 ((j:Nat):Int)),kv (.int .i64 ((j+8:Nat):Int)),kv (.pointer (some ⟨bv,0+(j+8),none⟩)),kv (.int .i64 (vt (j+8))),kv (.int .i64 (Ap (Ap (hc j) (vt j)) (vt (j+8)))),kv (.pointer (some ⟨bh,0+(j),none⟩))]
         []
         [some 165,some 166,some 167,some 168,some 169,some 170,some 171,some 172,some 173,some 174,some 175,some 176,some 177,some 178,some 179,some 180,some 181,some 182]
         [(0,.slice (some ⟨bh,0,none⟩) 8 ch),(16,.int .i64 ((j:Nat):Int)),(10,.slice (some ⟨bv,0,none⟩) 16 cv)]
         [[],[],[],[],[.slot 2,.slot 3],[.slot 4],[],[],[.slot 6,.slot 7],[.slot 8],[.slot 5,.slot 9],[],[],[.slot 12],[.slot 11,.slot 13],[.slot 14],[.slot 10,.slot 15],[.slot 0,.slot 1]]
         [.slot 16,.slot 17] [165,166,167,168,169,170,171,172,173,174,175,176,177,178,179,180,181,182]
         (by kernel_rfl) ⟨rfl,rfl,rfl,trivial⟩ (Below.refl _ v0).drew (Acg _) trivial trivial (A8 (Acg _) trivial)
         ⟨
          sL fun f _=>sV (Ab rfl f.1),
          sL fun f _=>sV (Ab rfl f.2.1),
          sL fun f _=>sV (Ab rfl f.1),
          sL fun f _=>sV (Ab rfl f.2.1),
          sL fun _ k=>sV (An rfl underlying171 As k.1 k.2.1 (by omega)),
          (fun _ _ ww _ hS _ _ kn=>sV (At rfl kn.1 (Aw (Ba (HH.out ww hS) (by omega))))),
          sL fun f _=>sV (Ab rfl f.2.2.1),
          sL fun f _=>sV (Ab rfl f.2.1),
          sL fun _ k=>sV (An rfl underlying171 As k.1 k.2.1 (by omega)),
          (fun _ _ ww _ hS _ _ kn=>sV (At rfl kn.1 (Aw (Ba (HV.out ww hS) (by omega))))),
          sL fun _ k=>sV (CJ rfl k.1 k.2.1 HW1.out (HWT.out j (by omega))),
          sL fun f _=>sV (Ab rfl f.2.2.1),
          sL fun f _=>sV (Ab rfl f.2.1),
          sL fun _ k=>sV (AG (n:=8) rfl k.1 rfl (by omega)),
          sL fun _ k=>sV (An rfl underlying171 As k.1 k.2.1 (by omega)),
          (fun _ _ ww _ hS _ _ kn=>sV (At rfl kn.1 (Aw (Ba (HV.out ww hS) (by omega))))),
          sL fun _ k=>sV (CJ rfl k.1 k.2.1 (A9 HW1.out (HWT.out j (by omega))) (HWT.out (j+8) (by omega))),
          sL fun _ k=>sV (An rfl underlying171 As k.1 k.2.1 (by omega)),
          trivial⟩ ?_)
        intro vs own v6 hB6 hs6 kn inj;clear inj hs6;have e181:vs 181=_:=kn.1;have e182:vs 182=_:=kn.2.1;rw[Acl] at e182;clear kn;have hH6:=HH.out _ hB6;have hV6:=HV.out _ hB6;replace hT:=hT.trans (B8 (Ac hB6));clear hB6 HH HV hHj hV;have c0:=hH6.cell j hj;have f0:=hH6.free j hj;have hHn:=Hid.mk ((hH6.set j (Ap (Ap (hc j) (vt j)) (vt (j+8)))).mono (Acg _) HNX.out);have hVn:=Hid.mk (hV6.only (only_set (w:=v6) (g:=bh) (i:=j) (v:=.int .i64 (Ap (Ap (hc j) (vt j)) (vt (j+8))))) (by omega));have hTn:=Hid.mk (hT.trans (Ag (only_set (w:=v6) (g:=bh) (i:=j) (v:=.int .i64 (Ap (Ap (hc j) (vt j)) (vt (j+8)))))));generalize Ap (Ap (hc j) (vt j)) (vt (j+8))=yy at *;show wpList prog _ _ (_::[]) _ _;simp only[Am,Act.put,Aci,Acj,Ach,e181,e182];go_wp2_with fail
        go_roundg (8-(j+1))
        case rel=>exact⟨j+1,Hid.mk (by omega),by go_num,hHn.out,hVn.out,hTn.out⟩
        case measure=>have:=HJ.out;omega
       ·have hj2:j=8:=by omega
        subst hj2;replace hHj:=hHj.mono (Acg _) (s':=Bh h s t false) (fun q hq=>by rw[if_pos hq]);go_wp2_with fail
        go_end0
        exact⟨rfl,hHj,fun q hq=>by rw[HTF.out];exact A9 (A9 (hh q hq) (HW.out q (by omega))) (HW.out (q+8) (by omega)),hT⟩
   | true =>
    have HR:Hid (∀j,j<8→(wr.alloc (.cells #[] 3)).cell? ⟨bh,0+j,none⟩=some (.int .i64 (h j))):=Hid.mk (fun j hj=>by rw[Acl];exact((hH.below hB hH.lt).alloc _).cell j hj)
    go_wp2_with (at_builtin;refine I3 rfl _ _ 171 3 .i64 8 underlying171 B1 (by decide) (by rfl) (n:=0) (m:=8) (f:=h) (by rfl) (fun j hj=>by omega) (by rfl) (r:=h) HR.out (by decide) (by decide) ?_;intro va v1 h1 hb1;refine Hid.out ?_)
    clear HR;rw[B2 (MB h h)] at h1;have hz1:wr.heap.size+1≤v1.heap.size:=by have:=hb1.size;simpa using this
    replace h1:v1.ownsRow (wr.heap.size+1) 3 1 va 8 (AC .i64 8 h):=by simpa using h1
    have hb1':Below wr.heap.size wr v1:=((Below.refl _ wr).alloc (Acg _) _).trans (hb1.mono (by simp));clear hb1;refine Hid.mk ?_;go_wp2_with fail;refine(Jv _).mono ?_;rintro e v2 ⟨rfl,gB,hb2⟩;replace h1:=Bp h1 hb2;have HZ2:Hid (wr.heap.size+1≤v2.heap.size):=Hid.mk (by have:=hb2.size;omega);have hb2':Below wr.heap.size wr v2:=hb1'.trans (hb2.mono (by omega));clear hb2 hb1'
    go_wp2_with (at_builtin;refine Db rfl _ _ 171 3 .i64 8 underlying171 B1 (by decide) (by rfl) (n:=8) (m:=8) (by rfl) h1 (by rfl) (r:=bgn) (fun j hj=>by rw[Acl];exact gB.cell j hj) (by decide) HZ2.out ?_;intro vb v3 h3 hb3;refine Hid.out ?_)
    have hb3':Below wr.heap.size wr v3:=hb2'.trans (hb3.mono (by omega));clear hb3 hb2' gB h1 HZ2;obtain⟨bv,cv,rfl,hbv,hcv,hV⟩:=CU h3 (by decide);clear h3
    have W0:∀i,i<16→W32 (cat 8 h bgn i):=fun i hi=>by
     unfold cat
     split
     ·exact hh i (by omega)
     ·exact Gh _
    have HQ0:Hid (∀q,q<16→cat 8 h bgn q=if q<8 then h q else bgn (q-8)):=Hid.mk (fun q _=>rfl);replace hV:RowAt v3 bv .i64 3 16 (cat 8 h bgn):=hV;generalize cat 8 h bgn=V0 at *;have hbv':wr.heap.size<bv:=by omega
    clear hbv;have hMv:=hM.below hb3' hM.lt;have hHv:=(hH.below hB hH.lt).below hb3' (AcH hH.lt hB.size);have hB3:=hB.trans (hb3'.mono hB.size);have hzz:bm<wr.heap.size:=hM.lt;have hzh:bh<w.heap.size:=hH.lt;have hzw:=hB.size;clear hM hb3' hB;have e1:t.tmod 4294967296=t%4294967296:=Acz ht.1;have e2:t.tdiv 4294967296=t/4294967296:=Ac8 ht.1;have T1:W32 (t%4294967296):=by unfold W32;omega
    have T2:W32 (t/4294967296):=by unfold W32;omega
    have c12:=hV.cell 12 (by omega);have f12:=hV.free 12 (by omega);have x12:bits .xor .i64 (V0 12) (t%4294967296)=Ap (V0 12) (t%4294967296):=Ep (W0 12 (by omega)) T1;have hV1:=hV.set 12 (Ap (V0 12) (t%4294967296));have o12:Only bv v3 _:=only_set (w:=v3) (g:=bv) (i:=12) (v:=.int .i64 (Ap (V0 12) (t%4294967296)));have W1:∀i,i<16→W32 (upd V0 12 (Ap (V0 12) (t%4294967296)) i):=Bd W0 (A9 (W0 12 (by omega)) T1);obtain⟨V1,hV1e⟩:∃V1,V1=upd V0 12 (Ap (V0 12) (t%4294967296)):=⟨_,rfl⟩;rw[←hV1e] at hV1 W1;have c13:=hV1.cell 13 (by omega);have f13:=hV1.free 13 (by omega);have x13:bits .xor .i64 (V1 13) (t/4294967296)=Ap (V1 13) (t/4294967296):=Ep (W1 13 (by omega)) T2;have hV2:=hV1.set 13 (Ap (V1 13) (t/4294967296));have o13:Only bv _ _:=only_set (w:=(v3.setCell ⟨bv,12,none⟩ (.int .i64 (Ap (V0 12) (t%4294967296))))) (g:=bv) (i:=13) (v:=.int .i64 (Ap (V1 13) (t/4294967296)));have W2:∀i,i<16→W32 (upd V1 13 (Ap (V1 13) (t/4294967296)) i):=Bd W1 (A9 (W1 13 (by omega)) T2);obtain⟨V2,hV2e⟩:∃V2,V2=upd V1 13 (Ap (V1 13) (t/4294967296)):=⟨_,rfl⟩;rw[←hV2e] at hV2 W2;have TT:=(Ag o12).trans (Ag o13);have HV1e:=Hid.mk hV1e;have HV2e:=Hid.mk hV2e;clear hV1e hV2e o12 o13 hV hV1;have HB2:=Hid.mk (Id h V0 t HQ0.out);replace hV2:=hV2.mono (Acg _) (s':=Bv h t false) (fun i hi=>by rw[HV2e.out,HV1e.out];exact HB2.out i hi);replace W2:∀i,i<16→W32 (Bv h t false i):=fun i hi=>by rw[←HB2.out i hi,←HV1e.out,←HV2e.out];exact W2 i hi
    clear HV2e HB2;have c14:=hV2.cell 14 (by omega);have f14:=hV2.free 14 (by omega);have x14:bits .xor .i64 (Bv h t false 14) 4294967295=Ap (Bv h t false 14) 4294967295:=Ep (W2 14 (by omega)) (by unfold W32;omega);have hV3:=(hV2.set 14 (Ap (Bv h t false 14) 4294967295)).mono (Acg _) (s':=Bv h t true) (GZ h _ t (fun _ _=>rfl))
    have W3:∀i,i<16→W32 (Bv h t true i):=fun i hi=>by
     rw[←GZ h _ t (fun _ _=>rfl) i hi];exact Bd W2 (A9 (W2 14 (by omega)) (by unfold W32;omega)) i hi
    have o14:Only bv _ _:=only_set (w:=((v3.setCell ⟨bv,12,none⟩ (.int .i64 (Ap (V0 12) (t%4294967296)))).setCell ⟨bv,13,none⟩ (.int .i64 (Ap (V1 13) (t/4294967296))))) (g:=bv) (i:=14) (v:=.int .i64 (Ap (Bv h t false 14) 4294967295));replace TT:=TT.trans (Ag o14);clear o14;refine Hid.mk ?_;go_wp2_with fail;refine(JQ _).mono ?_;rintro e v5 ⟨bo,rfl,hbo,hord,hb5⟩;replace hbo:v3.heap.size≤bo:=by simpa using hbo
    have hV5:RowAt v5 bv .i64 3 16 (Bv h t true):=hV3.below hb5 hV3.lt;have hM5:RowAt v5 bm .i64 3 16 (bwd s):=(hMv.touch TT (by omega)).below hb5 (hMv.touch TT (by omega)).lt;have hH5:RowAt v5 bh .i64 3 8 h:=(hHv.touch TT (by omega)).below hb5 (hHv.touch TT (by omega)).lt;have hlv:bv<bo:=by have:=hV3.lt;simp at this;omega
    have hB5:Below w.heap.size w v5:=(hB3.trans (CC TT (by omega) hB3.size)).trans (hb5.mono (by simp;exact hB3.size));clear hV2 hMv hHv hB3 hb5 TT c12 c13 f12 f13 x12 x13 e1 e2 T1 T2 W0 W1 HQ0 HV1e c14 f14 x14 hV3;have WV0:Hid (∀i,i<16→W32 (Bv h t true i)):=Hid.mk W3;clear W2 W3;go_wp2_with fail;generalize wr=wo at *
    go_loopg [12] 10 (fun gm iv v=>∃k:Nat,Hid (gm+k=10)∧iv=.int .i64 (k:Int)∧RowAt v bv .i64 3 16 (CK (bwd s) (Bv h t true) k)∧Hid (∀i,i<16→W32 (CK (bwd s) (Bv h t true) k i))∧Touch (fun x=>x=bv) v5 v)
    case atStart=>exact⟨0,Hid.mk rfl,rfl,hV5,WV0,Touch.refl _ _⟩
    case round =>
     obtain⟨k,HK,rfl,hV,HW,hT⟩:=hrel;have hk10:k≤10:=by have:=HK.out;omega
     by_cases hk:k<10
     ·have hcell:wr.cell? ⟨bo+10,k,none⟩=some (.slice (some ⟨bo+k,0,none⟩) 16 16):=by
       rw[←(hord k hk).1];exact World.cell?_of_block (hT.block (bo+10) (World.block_lt_of_cell? _ _ (hord k hk).1) (by omega))
      have hord5:RowAt v5 (bo+k) .i64 3 16 (ordI k):=(hord k hk).2.row;have HN:Hid (Kr (bwd s) k (IA (bwd s) k (CK (bwd s) (Bv h t true) k) 4) 4=CK (bwd s) (Bv h t true) (k+1)):=Hid.mk rfl;generalize CK (bwd s) (Bv h t true) k=X at *;have hd:decide ((k:Int)<10)=true:=by simp;omega
      go_wp2_with fail;generalize wr=wo1 at *;clear hcell
      go_loopg [14] 4 (fun gm iv v=>∃j:Nat,Hid (gm+j=4)∧iv=.int .i64 (j:Int)∧RowAt v bv .i64 3 16 (IA (bwd s) k X j)∧Hid (∀i,i<16→W32 (IA (bwd s) k X j i))∧Touch (fun x=>x=bv) v5 v)
      case atStart=>exact⟨0,Hid.mk rfl,rfl,hV,HW,hT⟩
      case round =>
       clear hV HW hT;obtain⟨j,HJ,rfl,hV,HW,hT⟩:=hrel;have hj4:j≤4:=by have:=HJ.out;omega
       by_cases hj:j<4
       ·have hWV:=HW.out
        clear HW;have o1:=FK k hk (2*j) (by omega);have o2:=FK k hk (2*j+1) (by omega);go_wp2_with fail;refine AJ (fun v=>RowAt v bv .i64 3 16 (IA (bwd s) k X j)∧Touch (fun x=>x=bv) v5 v) ⟨hV,hT⟩ ?_;clear hV hT;rintro v0 ⟨hV,hT⟩;have HOR:Hid (∀u,Below v0.heap.size v0 u→RowAt u (bo+k) .i64 3 16 (ordI k)):=Hid.mk (fun u hu=>(hord5.touch hT (by omega)).below hu (hord5.touch hT (by omega)).lt);have HM:Hid (∀u,Below v0.heap.size v0 u→RowAt u bm .i64 3 16 (bwd s)):=Hid.mk (fun u hu=>(hM5.touch hT (by omega)).below hu (hM5.touch hT (by omega)).lt);refine Cv 25 rfl (by kernel_rfl) (CB (Below v0.heap.size v0) v0.heap.size
         ([]:List (Nat×Cont))
         [kv (.slice (some ⟨bv,0,none⟩) 16 cv),kv (.int .i64 ((j:Nat):Int)),kv (.int .i64 ((j:Nat):Int)),kv (.int .i64 ((4+j:Nat):Int)),kv (.int .i64 ((j:Nat):Int)),kv (.int .i64 ((8+j:Nat):Int)),kv (.int .i64 ((j:Nat):Int)),kv (.int .i64 ((12+j:Nat):Int)),kv (.slice (some ⟨bm,0,none⟩) 16 cm),kv (.slice (some ⟨bo+k,0,none⟩) 16 16),kv (.int .i64 ((j:Nat):Int)),kv (.int .i64 ((2*(j):Nat):Int)),kv (.pointer (some ⟨bo+k,0+(2*(j)),none⟩)),kv (.int .i64 (((ord k (2*(j)):Nat):Int))),kv (.pointer (some ⟨bm,0+(ord k (2*(j))),none⟩)),kv (.int .i64 (bwd s (ord k (2*(j))))),kv (.slice (some ⟨bm,0,none⟩) 16 cm),kv (.slice (some ⟨bo+k,0,none⟩) 16 16),kv (.int .i64 ((j:Nat):Int)),kv (.int .i64 ((2*(j):Nat):Int)),kv (.int .i64 ((2*(j)+1:Nat):Int)),kv (.pointer (some ⟨bo+k,0+(2*(j)+1),none⟩)),kv (.int .i64 (((ord k (2*(j)+1):Nat):Int))),kv (.pointer (some ⟨bm,0+(ord k (2*(j)+1)),none⟩)),kv (.int .i64 (bwd s (ord k (2*(j)+1))))]
         []
         [some 98,some 99,some 100,some 101,some 102,some 103,some 104,some 105,some 106,some 107,some 108,some 109,some 110,some 111,some 112,some 113,some 114,some 115,some 116,some 117,some 118,some 119,some 120,some 121,some 122]
         [(10,.slice (some ⟨bv,0,none⟩) 16 cv),(8,.slice (some ⟨bm,0,none⟩) 16 cm),(13,.slice (some ⟨bo+k,0,none⟩) 16 16),(14,.int .i64 ((j:Nat):Int))]
         [[],[],[],[.slot 2],[],[.slot 4],[],[.slot 6],[],[],[],[.slot 10],[.slot 9,.slot 11],[.slot 12],[.slot 8,.slot 13],[.slot 14],[],[],[],[.slot 18],[.slot 19],[.slot 17,.slot 20],[.slot 21],[.slot 16,.slot 22],[.slot 23]]
         [.slot 0,.slot 1,.slot 3,.slot 5,.slot 7,.slot 15,.slot 24] [98,99,100,101,102,103,104,105,106,107,108,109,110,111,112,113,114,115,116,117,118,119,120,121,122]
         (by kernel_rfl) ⟨rfl,rfl,rfl,rfl,trivial⟩ (Below.refl _ v0).drew (Acg _) trivial trivial (A8 (Acg _) trivial)
         ⟨
          sL fun f _=>sV (Ab rfl f.1),
          sL fun f _=>sV (Ab rfl f.2.2.2.1),
          sL fun f _=>sV (Ab rfl f.2.2.2.1),
          sL fun _ k=>sV (AG (m:=4) rfl rfl k.1 (by omega)),
          sL fun f _=>sV (Ab rfl f.2.2.2.1),
          sL fun _ k=>sV (AG (m:=8) rfl rfl k.1 (by omega)),
          sL fun f _=>sV (Ab rfl f.2.2.2.1),
          sL fun _ k=>sV (AG (m:=12) rfl rfl k.1 (by omega)),
          sL fun f _=>sV (Ab rfl f.2.1),
          sL fun f _=>sV (Ab rfl f.2.2.1),
          sL fun f _=>sV (Ab rfl f.2.2.2.1),
          sL fun _ k=>sV (Cf (m:=2) rfl rfl k.1 (by omega)),
          sL fun _ k=>sV (An rfl underlying171 As k.1 k.2.1 (by omega)),
          (fun _ _ ww _ hS _ _ kn=>sV (At rfl kn.1 (Aw (Ba (HOR.out ww hS) (by omega))))),
          sL fun _ k=>sV (An rfl underlying171 As k.1 k.2.1 (by omega)),
          (fun _ _ ww _ hS _ _ kn=>sV (At rfl kn.1 (Aw (Ba (HM.out ww hS) (by omega))))),
          sL fun f _=>sV (Ab rfl f.2.1),
          sL fun f _=>sV (Ab rfl f.2.2.1),
          sL fun f _=>sV (Ab rfl f.2.2.2.1),
          sL fun _ k=>sV (Cf (m:=2) rfl rfl k.1 (by omega)),
          sL fun _ k=>sV (AG (n:=1) rfl k.1 rfl (by omega)),
          sL fun _ k=>sV (An rfl underlying171 As k.1 k.2.1 (by omega)),
          (fun _ _ ww _ hS _ _ kn=>sV (At rfl kn.1 (Aw (Ba (HOR.out ww hS) (by omega))))),
          sL fun _ k=>sV (An rfl underlying171 As k.1 k.2.1 (by omega)),
          (fun _ _ ww _ hS _ _ kn=>sV (At rfl kn.1 (Aw (Ba (HM.out ww hS) (by omega))))),
          trivial⟩ ?_)
        intro vs own v6 hB6 hs6 kn inj;clear inj hs6;have e98:vs 98=_:=kn.1;have e99:vs 99=_:=kn.2.1;have e101:vs 101=_:=kn.2.2.1;have e103:vs 103=_:=kn.2.2.2.1;have e105:vs 105=_:=kn.2.2.2.2.1;have e113:vs 113=_:=kn.2.2.2.2.2.1;have e122:vs 122=_:=kn.2.2.2.2.2.2.1;clear kn HOR HM;replace hV:=hV.below hB6 hV.lt;replace hT:=hT.trans (B8 (Ac hB6));clear hB6;show wpList prog _ _ (_::[]) _ _;simp only[Am,Act.put,Aci,Acj,Ach,e98,e99,e101,e103,e105,e113,e122];go_wp2_with fail;refine(I8 bv 16 cv _ j (4+j) (8+j) (12+j) (bwd s (ord k (2*j))) (bwd s (ord k (2*j+1))) _ hV hWV (by omega) (by omega) (by omega) (by omega) (JP HSB.out (by omega)) (JP HSB.out (by omega))).mono ?_;rintro e v7 ⟨rfl,hV7,hW7,hT7⟩;replace hT:=hT.trans hT7;clear hT7 hV hWV;go_wp2_with fail
        go_roundg (4-(j+1))
        case rel=>exact⟨j+1,Hid.mk (by omega),by go_num,hV7,Hid.mk hW7,hT⟩
        case measure=>have:=HJ.out;omega
       ·have hj2:j=4:=by omega
        subst hj2;clear hj hj4 HJ;generalize IA (bwd s) k X 4=Y at *;go_wp2_with fail;rw[show ((4:Nat):Int)=4 from rfl];generalize wr=wo2 at *
        go_loopg [15] 4 (fun gm iv v=>∃j:Nat,Hid (gm+j=4)∧iv=.int .i64 (j:Int)∧RowAt v bv .i64 3 16 (Kr (bwd s) k Y j)∧Hid (∀i,i<16→W32 (Kr (bwd s) k Y j i))∧Touch (fun x=>x=bv) v5 v)
        case atStart=>exact⟨0,Hid.mk rfl,rfl,hV,HW,hT⟩
        case round =>
         clear hV HW hT;obtain⟨j,HJ,rfl,hV,HW,hT⟩:=hrel;have hj4:j≤4:=by have:=HJ.out;omega
         by_cases hj:j<4
         ·have hWV:=HW.out
          clear HW;have o1:=FK k hk (8+2*j) (by omega);have o2:=FK k hk (9+2*j) (by omega);go_wp2_with fail;refine AJ (fun v=>RowAt v bv .i64 3 16 (Kr (bwd s) k Y j)∧Touch (fun x=>x=bv) v5 v) ⟨hV,hT⟩ ?_;clear hV hT;rintro v0 ⟨hV,hT⟩;have HOR:Hid (∀u,Below v0.heap.size v0 u→RowAt u (bo+k) .i64 3 16 (ordI k)):=Hid.mk (fun u hu=>(hord5.touch hT (by omega)).below hu (hord5.touch hT (by omega)).lt);have HM:Hid (∀u,Below v0.heap.size v0 u→RowAt u bm .i64 3 16 (bwd s)):=Hid.mk (fun u hu=>(hM5.touch hT (by omega)).below hu (hM5.touch hT (by omega)).lt);refine Cv 32 rfl (by kernel_rfl) (CB (Below v0.heap.size v0) v0.heap.size
           ([]:List (Nat×Cont))
           (kv (.slice (some ⟨bv,0,none⟩) 16 cv)::kv (.int .i64 ((j:Nat):Int))::kv (.int .i64 ((j:Nat):Int))::kv (.int .i64 ((j+1:Nat):Int))::kv (.int .i64 (((j+1)%4:Nat):Int))::kv (.int .i64 ((4+(j+1)%4:Nat):Int))::kv (.int .i64 ((j:Nat):Int))::kv (.int .i64 ((j+2:Nat):Int))::kv (.int .i64 (((j+2)%4:Nat):Int))::kv (.int .i64 ((8+(j+2)%4:Nat):Int))::kv (.int .i64 ((j:Nat):Int))::kv (.int .i64 ((j+3:Nat):Int))::kv (.int .i64 (((j+3)%4:Nat):Int))::kv (.int .i64 ((12+(j+3)%4:Nat):Int))::kv (.slice (some ⟨bm,0,none⟩) 16 cm)::kv (.slice (some ⟨bo+k,0,none⟩) 16 16)::kv (.int .i64 ((j:Nat):Int))::kv (.int .i64 ((2*(j):Nat):Int))::kv (.int .i64 ((8+2*(j):Nat):Int))::kv (.pointer (some ⟨bo+k,0+(8+2*(j)),none⟩))::kv (.int .i64 (((ord k (8+2*(j)):Nat):Int)))::kv (.pointer (some ⟨bm,0+(ord k (8+2*(j))),none⟩))::kv (.int .i64 (bwd s (ord k (8+2*(j)))))::kv (.slice (some ⟨bm,0,none⟩) 16 cm)::kv (.slice (some ⟨bo+k,0,none⟩) 16 16)::kv (.int .i64 ((j:Nat):Int))::kv (.int .i64 ((2*(j):Nat):Int))::kv (.int .i64 ((9+2*(j):Nat):Int))::kv (.pointer (some ⟨bo+k,0+(9+2*(j)),none⟩))::kv (.int .i64 (((ord k (9+2*(j)):Nat):Int)))::kv (.pointer (some ⟨bm,0+(ord k (9+2*(j))),none⟩))::kv (.int .i64 (bwd s (ord k (9+2*(j)))))::[])
           []
           (some 128::some 129::some 130::some 131::some 132::some 133::some 134::some 135::some 136::some 137::some 138::some 139::some 140::some 141::some 142::some 143::some 144::some 145::some 146::some 147::some 148::some 149::some 150::some 151::some 152::some 153::some 154::some 155::some 156::some 157::some 158::some 159::[])
           [(10,.slice (some ⟨bv,0,none⟩) 16 cv),(8,.slice (some ⟨bm,0,none⟩) 16 cm),(13,.slice (some ⟨bo+k,0,none⟩) 16 16),(15,.int .i64 ((j:Nat):Int))]
           ([]::[]::[]::[.slot 2]::[.slot 3]::[.slot 4]::[]::[.slot 6]::[.slot 7]::[.slot 8]::[]::[.slot 10]::[.slot 11]::[.slot 12]::[]::[]::[]::[.slot 16]::[.slot 17]::[.slot 15,.slot 18]::[.slot 19]::[.slot 14,.slot 20]::[.slot 21]::[]::[]::[]::[.slot 25]::[.slot 26]::[.slot 24,.slot 27]::[.slot 28]::[.slot 23,.slot 29]::[.slot 30]::[])
           [.slot 0,.slot 1,.slot 5,.slot 9,.slot 13,.slot 22,.slot 31] (128::129::130::131::132::133::134::135::136::137::138::139::140::141::142::143::144::145::146::147::148::149::150::151::152::153::154::155::156::157::158::159::[])
           (by kernel_rfl) ⟨rfl,rfl,rfl,rfl,trivial⟩ (Below.refl _ v0).drew (Acg _) trivial trivial (A8 (Acg _) trivial)
           ⟨
            sL fun f _=>sV (Ab rfl f.1),
            sL fun f _=>sV (Ab rfl f.2.2.2.1),
            sL fun f _=>sV (Ab rfl f.2.2.2.1),
            sL fun _ k=>sV (AG (n:=1) rfl k.1 rfl (by omega)),
            sL fun _ k=>sV (DP (n:=4) rfl k.1 rfl (by omega)),
            sL fun _ k=>sV (AG (m:=4) rfl rfl k.1 (by omega)),
            sL fun f _=>sV (Ab rfl f.2.2.2.1),
            sL fun _ k=>sV (AG (n:=2) rfl k.1 rfl (by omega)),
            sL fun _ k=>sV (DP (n:=4) rfl k.1 rfl (by omega)),
            sL fun _ k=>sV (AG (m:=8) rfl rfl k.1 (by omega)),
            sL fun f _=>sV (Ab rfl f.2.2.2.1),
            sL fun _ k=>sV (AG (n:=3) rfl k.1 rfl (by omega)),
            sL fun _ k=>sV (DP (n:=4) rfl k.1 rfl (by omega)),
            sL fun _ k=>sV (AG (m:=12) rfl rfl k.1 (by omega)),
            sL fun f _=>sV (Ab rfl f.2.1),
            sL fun f _=>sV (Ab rfl f.2.2.1),
            sL fun f _=>sV (Ab rfl f.2.2.2.1),
            sL fun _ k=>sV (Cf (m:=2) rfl rfl k.1 (by omega)),
            sL fun _ k=>sV (AG (m:=8) rfl rfl k.1 (by omega)),
            sL fun _ k=>sV (An rfl underlying171 As k.1 k.2.1 (by omega)),
            (fun _ _ ww _ hS _ _ kn=>sV (At rfl kn.1 (Aw (Ba (HOR.out ww hS) (by omega))))),
            sL fun _ k=>sV (An rfl underlying171 As k.1 k.2.1 (by omega)),
            (fun _ _ ww _ hS _ _ kn=>sV (At rfl kn.1 (Aw (Ba (HM.out ww hS) (by omega))))),
            sL fun f _=>sV (Ab rfl f.2.1),
            sL fun f _=>sV (Ab rfl f.2.2.1),
            sL fun f _=>sV (Ab rfl f.2.2.2.1),
            sL fun _ k=>sV (Cf (m:=2) rfl rfl k.1 (by omega)),
            sL fun _ k=>sV (AG (m:=9) rfl rfl k.1 (by omega)),
            sL fun _ k=>sV (An rfl underlying171 As k.1 k.2.1 (by omega)),
            (fun _ _ ww _ hS _ _ kn=>sV (At rfl kn.1 (Aw (Ba (HOR.out ww hS) (by omega))))),
            sL fun _ k=>sV (An rfl underlying171 As k.1 k.2.1 (by omega)),
            (fun _ _ ww _ hS _ _ kn=>sV (At rfl kn.1 (Aw (Ba (HM.out ww hS) (by omega))))),
            trivial⟩ ?_)
          intro vs own v6 hB6 hs6 kn inj;clear inj hs6;have e128:vs 128=_:=kn.1;have e129:vs 129=_:=kn.2.1;have e133:vs 133=_:=kn.2.2.1;have e137:vs 137=_:=kn.2.2.2.1;have e141:vs 141=_:=kn.2.2.2.2.1;have e150:vs 150=_:=kn.2.2.2.2.2.1;have e159:vs 159=_:=kn.2.2.2.2.2.2.1;clear kn HOR HM;replace hV:=hV.below hB6 hV.lt;replace hT:=hT.trans (B8 (Ac hB6));clear hB6;show wpList prog _ _ (_::[]) _ _;simp only[Am,Act.put,Aci,Acj,Ach,e128,e129,e133,e137,e141,e150,e159];go_wp2_with fail;refine(I8 bv 16 cv _ j (4+(j+1)%4) (8+(j+2)%4) (12+(j+3)%4) (bwd s (ord k (8+2*j))) (bwd s (ord k (9+2*j))) _ hV hWV (by omega) (by omega) (by omega) (by omega) (JP HSB.out (by omega)) (JP HSB.out (by omega))).mono ?_;rintro e v7 ⟨rfl,hV7,hW7,hT7⟩;replace hT:=hT.trans hT7;clear hT7 hV hWV;go_wp2_with fail
          go_roundg (4-(j+1))
          case rel=>exact⟨j+1,Hid.mk (by omega),by go_num,hV7,Hid.mk hW7,hT⟩
          case measure=>have:=HJ.out;omega
         ·have hj2:j=4:=by omega
          subst hj2;clear hj hj4 HJ;rw[HN.out] at hV HW;go_wp2_with fail
          go_roundg (10-(k+1))
          case rel=>exact⟨k+1,Hid.mk (by omega),by go_num,hV,HW,hT⟩
          case measure=>have:=HK.out;omega
     ·have hk2:k=10:=by omega
      subst hk2;have HTF:Hid (∀q,Bh h s t true q=Ap (Ap (h q) (CK (bwd s) (Bv h t true) 10 q)) (CK (bwd s) (Bv h t true) 10 (q+8))):=Hid.mk (fun _=>rfl);generalize CK (bwd s) (Bv h t true) 10=vt at *;have hHr:=hH5.touch hT (by omega);have hTw:Touch (fun x=>x=bh) w wr:=B8 ⟨hT.os.trans hB5.os,hT.tape.trans hB5.tape,hT.output.trans hB5.output,Acp hB5.size hT.size,fun q hq _=>(hT.block q (AcH hq hB5.size) (by omega)).trans (hB5.block q hq)⟩;clear hT hk hk10 HK;go_wp2_with fail;rw[show ((10:Nat):Int)=10 from rfl];generalize wr=wo3 at *
      go_loopg [16] 8 (fun gm iv v=>∃j:Nat,Hid (gm+j=8)∧iv=.int .i64 (j:Int)∧RowAt v bh .i64 3 8 (fun q=>if q<j then Bh h s t true q else h q)∧RowAt v bv .i64 3 16 vt∧Touch (fun x=>x=bh) w v)
      case atStart=>exact⟨0,Hid.mk rfl,rfl,hHr.mono (Acg _) (fun q _=>by rw[if_neg (by omega)]),hV,hTw⟩
      case round =>
       clear hHr hV hTw;obtain⟨j,HJ,rfl,hHj,hV,hT⟩:=hrel;have hj8:j≤8:=by have:=HJ.out;omega
       by_cases hj:j<8
       ·have HW1:Hid (W32 (if j<j then Bh h s t true j else h j)):=Hid.mk (by rw[if_neg (by omega)];exact hh j hj)
        have HNX:Hid (∀q,q<8→upd (fun q=>if q<j then Bh h s t true q else h q) j (Ap (Ap (if j<j then Bh h s t true j else h j) (vt j)) (vt (j+8))) q=(fun q=>if q<j+1 then Bh h s t true q else h q) q):=Hid.mk (fun q _=>by
         unfold upd
         by_cases e:q=j
         ·subst e
          show (if q=q then _ else _)=(if q<q+1 then Bh h s t true q else h q);rw[if_pos rfl,if_neg (by omega),if_pos (by omega),HTF.out]
         ·show (if q=j then _ else _)=(if q<j+1 then Bh h s t true q else h q)
          rw[if_neg e];show (if q<j then Bh h s t true q else h q)=_
          by_cases h2:q<j
          ·rw[if_pos h2,if_pos (by omega)]
          ·rw[if_neg h2,if_neg (by omega)])
        have HWT:=HW;generalize hhc:(fun q=>if q<j then Bh h s t true q else h q)=hc at *;replace HW1:Hid (W32 (hc j)):=by rw[←hhc];exact HW1
        replace HNX:Hid (∀q,q<8→upd hc j (Ap (Ap (hc j) (vt j)) (vt (j+8))) q=(fun q=>if q<j+1 then Bh h s t true q else h q) q):=by rw[←hhc];rw[←hhc] at HNX;exact HNX
        clear hhc;go_wp2_with fail;refine AJ (fun v=>RowAt v bh .i64 3 8 hc∧RowAt v bv .i64 3 16 vt∧Touch (fun x=>x=bh) w v) ⟨hHj,hV,hT⟩ ?_;clear hHj hV hT;rintro v0 ⟨hHj,hV,hT⟩;have HH:Hid (∀u,Below v0.heap.size v0 u→RowAt u bh .i64 3 8 hc):=Hid.mk (fun u hu=>hHj.below hu hHj.lt);have HV:Hid (∀u,Below v0.heap.size v0 u→RowAt u bv .i64 3 16 vt):=Hid.mk (fun u hu=>hV.below hu hV.lt);refine Cv 18 rfl (by kernel_rfl) (CB (Below v0.heap.size v0) v0.heap.size
         ([]:List (Nat×Cont))
         [kv (.slice (some ⟨bh,0,none⟩) 8 ch),kv (.int .i64 ((j:Nat):Int)),kv (.slice (some ⟨bh,0,none⟩) 8 ch),kv (.int .i64 ((j:Nat):Int)),kv (.pointer (some ⟨bh,0+(j),none⟩)),kv (.int .i64 (hc j)),kv (.slice (some ⟨bv,0,none⟩) 16 cv),kv (.int .i64 ((j:Nat):Int)),kv (.pointer (some ⟨bv,0+(j),none⟩)),kv (.int .i64 (vt j)),kv (.int .i64 (Ap (hc j) (vt j))),kv (.slice (some ⟨bv,0,none⟩) 16 cv),kv (.int .i64 ((j:Nat):Int)),kv (.int .i64 ((j+8:Nat):Int)),kv (.pointer (some ⟨bv,0+(j+8),none⟩)),kv (.int .i64 (vt (j+8))),kv (.int .i64 (Ap (Ap (hc j) (vt j)) (vt (j+8)))),kv (.pointer (some ⟨bh,0+(j),none⟩))]
         []
         [some 165,some 166,some 167,some 168,some 169,some 170,some 171,some 172,some 173,some 174,some 175,some 176,some 177,some 178,some 179,some 180,some 181,some 182]
         [(0,.slice (some ⟨bh,0,none⟩) 8 ch),(16,.int .i64 ((j:Nat):Int)),(10,.slice (some ⟨bv,0,none⟩) 16 cv)]
         [[],[],[],[],[.slot 2,.slot 3],[.slot 4],[],[],[.slot 6,.slot 7],[.slot 8],[.slot 5,.slot 9],[],[],[.slot 12],[.slot 11,.slot 13],[.slot 14],[.slot 10,.slot 15],[.slot 0,.slot 1]]
         [.slot 16,.slot 17] [165,166,167,168,169,170,171,172,173,174,175,176,177,178,179,180,181,182]
         (by kernel_rfl) ⟨rfl,rfl,rfl,trivial⟩ (Below.refl _ v0).drew (Acg _) trivial trivial (A8 (Acg _) trivial)
         ⟨
          sL fun f _=>sV (Ab rfl f.1),
          sL fun f _=>sV (Ab rfl f.2.1),
          sL fun f _=>sV (Ab rfl f.1),
          sL fun f _=>sV (Ab rfl f.2.1),
          sL fun _ k=>sV (An rfl underlying171 As k.1 k.2.1 (by omega)),
          (fun _ _ ww _ hS _ _ kn=>sV (At rfl kn.1 (Aw (Ba (HH.out ww hS) (by omega))))),
          sL fun f _=>sV (Ab rfl f.2.2.1),
          sL fun f _=>sV (Ab rfl f.2.1),
          sL fun _ k=>sV (An rfl underlying171 As k.1 k.2.1 (by omega)),
          (fun _ _ ww _ hS _ _ kn=>sV (At rfl kn.1 (Aw (Ba (HV.out ww hS) (by omega))))),
          sL fun _ k=>sV (CJ rfl k.1 k.2.1 HW1.out (HWT.out j (by omega))),
          sL fun f _=>sV (Ab rfl f.2.2.1),
          sL fun f _=>sV (Ab rfl f.2.1),
          sL fun _ k=>sV (AG (n:=8) rfl k.1 rfl (by omega)),
          sL fun _ k=>sV (An rfl underlying171 As k.1 k.2.1 (by omega)),
          (fun _ _ ww _ hS _ _ kn=>sV (At rfl kn.1 (Aw (Ba (HV.out ww hS) (by omega))))),
          sL fun _ k=>sV (CJ rfl k.1 k.2.1 (A9 HW1.out (HWT.out j (by omega))) (HWT.out (j+8) (by omega))),
          sL fun _ k=>sV (An rfl underlying171 As k.1 k.2.1 (by omega)),
          trivial⟩ ?_)
        intro vs own v6 hB6 hs6 kn inj;clear inj hs6;have e181:vs 181=_:=kn.1;have e182:vs 182=_:=kn.2.1;rw[Acl] at e182;clear kn;have hH6:=HH.out _ hB6;have hV6:=HV.out _ hB6;replace hT:=hT.trans (B8 (Ac hB6));clear hB6 HH HV hHj hV;have c0:=hH6.cell j hj;have f0:=hH6.free j hj;have hHn:=Hid.mk ((hH6.set j (Ap (Ap (hc j) (vt j)) (vt (j+8)))).mono (Acg _) HNX.out);have hVn:=Hid.mk (hV6.only (only_set (w:=v6) (g:=bh) (i:=j) (v:=.int .i64 (Ap (Ap (hc j) (vt j)) (vt (j+8))))) (by omega));have hTn:=Hid.mk (hT.trans (Ag (only_set (w:=v6) (g:=bh) (i:=j) (v:=.int .i64 (Ap (Ap (hc j) (vt j)) (vt (j+8)))))));generalize Ap (Ap (hc j) (vt j)) (vt (j+8))=yy at *;show wpList prog _ _ (_::[]) _ _;simp only[Am,Act.put,Aci,Acj,Ach,e181,e182];go_wp2_with fail
        go_roundg (8-(j+1))
        case rel=>exact⟨j+1,Hid.mk (by omega),by go_num,hHn.out,hVn.out,hTn.out⟩
        case measure=>have:=HJ.out;omega
       ·have hj2:j=8:=by omega
        subst hj2;replace hHj:=hHj.mono (Acg _) (s':=Bh h s t true) (fun q hq=>by rw[if_pos hq]);go_wp2_with fail
        go_end0
        exact⟨rfl,hHj,fun q hq=>by rw[HTF.out];exact A9 (A9 (hh q hq) (HW.out q (by omega))) (HW.out (q+8) (by omega)),hT⟩
def h0F(size kl:Nat):Nat→Int:=upd bgn 0 (Ap (Ap (Ap (bgn 0) 16842752) (256*(kl:Int))) (size:Int))
def ID(key text:ByteArray):ByteArray:=if key.size=0 then text else key++mkS (64-key.size) (fun _=>0)++text
def stF(all:ByteArray)(h0:Nat→Int):Nat→Nat→Int
 | 0=>h0
 | k+1=>Bh (stF all h0 k) (fun j=>txt all (64*k+j)) ((64*k+min 64 (all.size-64*k):Nat):Int) (decide (64*k+min 64 (all.size-64*k)=all.size))
def nbF(n:Nat):Nat:=if n=0 then 1 else (n+63)/64
def DL(h:Nat→Int)(i:Nat):Int:=h (i/4)/256 ^ (i%4)%256
theorem Ie(h:Nat→Int)(i:Nat):0≤DL h i∧DL h i<256:=by unfold DL;omega
def Ox(size:Nat)(key text:ByteArray):ByteArray:=mkS size (DL (stF (ID key text) (h0F size key.size) (nbF (ID key text).size)))
theorem Vr{size kl:Nat}(hs:size≤64)(hk:kl≤64):∀i,i<8→W32 (h0F size kl i):=Bd (fun i _=>Gh i) (A9 (A9 (A9 (Gh 0) (by unfold W32;omega)) (by unfold W32;omega)) (by unfold W32;omega))
theorem SR{a:Act}{o:Oper}{w:World}{x y:Operand}(ho:o.op=.call { callee:=.builtin .min,args:=#[x,y],argTypes:=#[3,3] }){m n:Nat}(hx:a.eval x=.int .i64 (m:Int))(hy:a.eval y=.int .i64 (n:Int)):(execOp a.eval o).run prog w=.ok (.value (.int .i64 ((min m n:Nat):Int))) w:=by
 have hr:=run_min_int2 (P:=prog) (w:=w) #[3,3] o.type .i64 .i64 (m:Int) (n:Int);have e:(if (n:Int)<(m:Int) then (n:Int) else (m:Int))=((min m n:Nat):Int):=by split<;>omega
 rw[e] at hr;simp[execOp,ho,resolve,invoke,builtin,hx,hy,hr]
theorem ST{a:Act}{o:Oper}{w:World}{x y:Operand}(ho:o.op=.binOp .sub 3 x y 3){m n:Nat}(hx:a.eval x=.int .i64 (m:Int))(hy:a.eval y=.int .i64 (n:Int))(h:n≤m)(h2:m<9223372036854775808):(execOp a.eval o).run prog w=.ok (.value (.int .i64 ((m-n:Nat):Int))) w:=by
 have e:(m:Int)-(n:Int)=((m-n:Nat):Int):=by omega
 exact BN ho rfl hx hy (by simp[go_sem,e,Cg (n:=((m-n:Nat):Int)) (by omega) (by omega)])
theorem CO{a:Act}{o:Oper}{w:World}{x y:Operand}(ho:o.op=.binOp .eql 3 x y 3){m n:Nat}{z:Bool}(hx:a.eval x=.int .i64 (m:Int))(hy:a.eval y=.int .i64 (n:Int))(hz:decide (m=n)=z):(execOp a.eval o).run prog w=.ok (.value (.bool z)) w:=by
 subst hz
 exact CM ho hx hy rfl (by
  by_cases e:m=n
  ·simp[go_sem,e]
  ·have e2:¬(m:Int)=(n:Int):=by omega
   simp[go_sem,e,e2])
theorem Hb{a:Act}{o:Oper}{w:World}{x y:Operand}(ho:o.op=.binOp .lss 3 x y 3){m n:Nat}{z:Bool}(hx:a.eval x=.int .i64 (m:Int))(hy:a.eval y=.int .i64 (n:Int))(hz:decide (m<n)=z):(execOp a.eval o).run prog w=.ok (.value (.bool z)) w:=by
 subst hz;exact BN ho rfl hx hy (by by_cases e:m<n<;>simp[go_sem,e])
theorem Hc{a:Act}{o:Oper}{w:World}{x y:Operand}(ho:o.op=.call { callee:=.builtin .min,args:=#[x,y],argTypes:=#[3,3] }){m n q:Nat}(hx:a.eval x=.int .i64 (m:Int))(hy:a.eval y=.int .i64 (n:Int))(e:min m n=q):(execOp a.eval o).run prog w=.ok (.value (.int .i64 (q:Int))) w:=e▸SR ho hx hy
theorem Fw{a:Act}{o:Oper}{w:World}{x y:Operand}(ho:o.op=.binOp .sub 3 x y 3){m n q:Nat}(hx:a.eval x=.int .i64 (m:Int))(hy:a.eval y=.int .i64 (n:Int))(e:m-n=q)(h:n≤m)(h2:m<9223372036854775808):(execOp a.eval o).run prog w=.ok (.value (.int .i64 (q:Int))) w:=e▸ST ho hx hy h h2
theorem BV{a:Act}{o:Oper}{w:World}{x y:Operand}(ho:o.op=.binOp .add 3 x y 3){m n q:Nat}(hx:a.eval x=.int .i64 (m:Int))(hy:a.eval y=.int .i64 (n:Int))(e:m+n=q)(h:m+n<9223372036854775808):(execOp a.eval o).run prog w=.ok (.value (.int .i64 (q:Int))) w:=e▸AG ho hx hy h
theorem MC{a:Act}{o:Oper}{w:World}{x y:Operand}(ho:o.op=.binOp .mul 3 x y 3){m n q:Nat}(hx:a.eval x=.int .i64 (m:Int))(hy:a.eval y=.int .i64 (n:Int))(e:m*n=q)(h:m*n<9223372036854775808):(execOp a.eval o).run prog w=.ok (.value (.int .i64 (q:Int))) w:=e▸Cf ho hx hy h
theorem MD{a:Act}{o:Oper}{w:World}{x y:Operand}(ho:o.op=.binOp .rem 3 x y 3){m n q:Nat}(hx:a.eval x=.int .i64 (m:Int))(hy:a.eval y=.int .i64 (n:Int))(e:m%n=q)(h:0<n):(execOp a.eval o).run prog w=.ok (.value (.int .i64 (q:Int))) w:=e▸DP ho hx hy h
theorem JR(s:ByteArray)(l n:Nat)(w:World)(h1:l≤n)(h:n≤s.size):(Instr.sliceAt 9 (.string s) (some (.int .i64 (l:Int))) (some (.int .i64 (n:Int))) none).run prog w=.ok (.string (s.extract l n)) w:=by
 have h2:(n:Int)≤(s.size:Int):=by omega
 have h3:(l:Int)≤(n:Int):=by omega
 simp[go_sem,h2,h3]
theorem Yp(s:ByteArray)(l n j:Nat)(hj:j<n-l)(h:n≤s.size):txt (s.extract l n) j=txt s (l+j):=by
 have hs:j<(s.extract l n).size:=by simp;omega
 rw[←C3 hs,←C3 (s:=s) (j:=l+j) (by omega)];congr 2;exact ByteArray.getElem_extract hs
theorem Kx(s:ByteArray)(l n:Nat)(h:n≤s.size):s.extract l n=mkS (n-l) (fun j=>txt s (l+j)):=by
 have hs:(s.extract l n).size=n-l:=by simp;omega
 conv=>lhs;rw[←CE (s.extract l n),hs]
 exact GV (fun j hj=>Yp s l n j hj h)
theorem SU{s:ByteArray}(h:s.size=0):s=⟨#[]⟩:=ByteArray.ext (Array.eq_empty_of_size_eq_zero h)
theorem IE{s:ByteArray}{j:Nat}(h:s.size≤j):txt s j=0:=by
 unfold txt;rw[AcG,Ac7 (by simpa using h)];rfl
theorem Hd(s:ByteArray)(l n:Nat)(hn:n=min 64 (s.size-l)):∀j,j<64→over (fun _=>0) 0 n (fun j=>txt s (l+j)) j=txt s (l+j):=fun j hj=>by
 unfold over
 by_cases e:j<n
 ·rw[if_pos (by omega),Nat.sub_zero]
 ·rw[if_neg (by omega),IE (by omega)]
theorem SV(n:Nat)(hn:n≤64)(w:World):(Instr.makeSlice 81 (.int .i64 (n:Int)) (.int .i64 (n:Int))).run prog w=.ok (.slice (some ⟨w.heap.size,0,none⟩) n n) (w.alloc (.cells (WA .u8 n fun _=>0) 5)):=by
 have hm:=run_make_row' (P:=prog) 81 5 (.int .u8 0) 1 underlying81 infoByte rfl .i64 .i64 n (by omega) (by omega) w;rw[Rj] at hm;exact hm
theorem Dq{ops:Array Oper}{rest:List Oper}{d:Option Tmp}{x y:Operand}{ty:TypeId}{ps:String}{af:Array Edge}{a:Act}{w:World}{Q:Exit→Act→World→Prop}{n:Nat}(hx:a.eval x=.int .i64 (n:Int))(hy:a.eval y=.int .i64 (n:Int))(hn:n≤64)(h:∀w',ArrAt w' w.heap.size .u8 5 n (fun _=>0)→Below w.heap.size w w'→wpList prog ops Q rest (a.put d (.slice (some ⟨w.heap.size,0,none⟩) n n)) w'):wpList prog ops Q ({ dst:=d,op:=.makeSlice 81 x y,type:=ty,pos:=ps,after:=af,guard:=none }::rest) a w:=by
 have hr:=SV n hn w;refine CZ rfl ?_;unfold Oper.wp execOp;simp only[hx,hy,Sem.run_bind,hr,Result.andThen_ok,Sem.run_pure,Oper.upon];exact h _ (heap_alloc_new w _) ((Below.refl _ _).alloc (Acg _) _)
theorem EL{ops:Array Oper}{rest:List Oper}{dt:Option Tmp}{d s':Operand}{ty:TypeId}{ps:String}{af:Array Edge}{a:Act}{w:World}{Q:Exit→Act→World→Prop}{g off dL dC n m:Nat}{t:TypeId}{s r:Nat→Int}(hd:a.eval d=.slice (some ⟨g,off,none⟩) dL dC)(hs:a.eval s'=.string (mkS m r))(hg:ArrAt w g .u8 t n s)(hr:∀j,j<m→0≤r j∧r j<256)(hm:m≤dL)(hfit:off+m≤n)(h:∀w',ArrAt w' g .u8 t n (over s off m r)→Only g w w'→wpList prog ops Q rest (a.put dt (goInt m)) w'):wpList prog ops Q ({ dst:=dt,op:=.call { callee:=.builtin .copy,args:=#[d,s'],argTypes:=#[81,9] },type:=ty,pos:=ps,after:=af,guard:=none }::rest) a w:=
 CZ rfl (Jt rfl hd hs hg hr hm hfit h)
theorem SW(x:Int)(r:Nat)(hr:r<4)(w:World):(binOp .shr 3 (.int .i64 x) (.int .i64 ((8*r:Nat):Int))).run prog w=.ok (.int .i64 (x/256 ^ r)) w:=by
 match r,hr with
 | 0,_=>simp[go_sem]
 | 1,_=>simp[go_sem]
 | 2,_=>simp[go_sem]
 | 3,_=>simp[go_sem]
theorem SX{a:Act}{o:Oper}{w:World}{x y:Operand}(ho:o.op=.binOp .shr 3 x y 3){n:Int}{r:Nat}(hx:a.eval x=.int .i64 n)(hy:a.eval y=.int .i64 ((8*r:Nat):Int))(hr:r<4):(execOp a.eval o).run prog w=.ok (.value (.int .i64 (n/256 ^ r))) w:=CM ho hx hy rfl (SW n r hr w)
theorem SY{a:Act}{o:Oper}{w:World}{x y:Operand}(ho:o.op=.binOp .quo 3 x y 3){m n:Nat}(hx:a.eval x=.int .i64 (m:Int))(hy:a.eval y=.int .i64 (n:Int))(h:0<n)(hm:m<9223372036854775808):(execOp a.eval o).run prog w=.ok (.value (.int .i64 ((m/n:Nat):Int))) w:=by
 have e:(m:Int).tdiv (n:Int)=((m/n:Nat):Int):=by rw[Ac8 (by omega)];simp
 have hn:¬n=0:=by omega
 have hle:m/n≤m:=Nat.div_le_self _ _
 have e2:IntKind.i64.wrap ((m:Int)/(n:Int))=(m:Int)/(n:Int):=by
  have e3:(m:Int)/(n:Int)=((m/n:Nat):Int):=by simp
  generalize m/n=q at *;rw[e3];exact Cg (by omega) (by omega)
 exact BN ho rfl hx hy (by simp[go_sem,hn,e,e2])
theorem MG{a:Act}{o:Oper}{w:World}{x y:Operand}(ho:o.op=.binOp .quo 3 x y 3){m n q:Nat}(hx:a.eval x=.int .i64 (m:Int))(hy:a.eval y=.int .i64 (n:Int))(e:m/n=q)(h:0<n)(hm:m<9223372036854775808):(execOp a.eval o).run prog w=.ok (.value (.int .i64 (q:Int))) w:=e▸SY ho hx hy h hm
theorem MH{a:Act}{o:Oper}{w:World}{x y:Operand}(ho:o.op=.binOp .shr 3 x y 3){n:Int}{r q:Nat}(hx:a.eval x=.int .i64 n)(hy:a.eval y=.int .i64 (q:Int))(e:8*r=q)(hr:r<4):(execOp a.eval o).run prog w=.ok (.value (.int .i64 (n/256 ^ r))) w:=SX ho hx (e▸hy) hr
theorem Ky(n:Int)(w:World):(convert 3 5 (.int .i64 n)).run prog w=.ok (.int .u8 (n%256)) w:=by
 have e:IntKind.u8.wrap n=n%256:=by rw[IntKind.wrap_u8]
 simp[go_sem,e]
theorem Rz(n:Int)(w:World):(Instr.buildSlice 81 1 #[(0,.int .u8 n)]).run prog w=.ok (.slice (some ⟨w.heap.size,0,none⟩) 1 1) (w.alloc (.cells #[.int .u8 n] 5)):=by simp[go_sem]
theorem Vs{ops:Array Oper}{rest:List Oper}{d:Option Tmp}{x:Operand}{ty:TypeId}{ps:String}{af:Array Edge}{a:Act}{w:World}{Q:Exit→Act→World→Prop}{n:Int}(hx:a.eval x=.int .u8 n)(h:∀w',ArrAt w' w.heap.size .u8 5 1 (fun _=>n)→Below w.heap.size w w'→wpList prog ops Q rest (a.put d (.slice (some ⟨w.heap.size,0,none⟩) 1 1)) w'):wpList prog ops Q ({ dst:=d,op:=.buildSlice 81 1 #[(0,x)],type:=ty,pos:=ps,after:=af,guard:=none }::rest) a w:=by
 have hr:=Rz n w;refine CZ rfl ?_;unfold Oper.wp execOp;simp only[Acs,Acu,Acq,hx,Sem.run_bind,hr,Result.andThen_ok,Sem.run_pure,Oper.upon];exact h _ (heap_alloc_new w _) ((Below.refl _ _).alloc (Acg _) _)
theorem SZ(key text:ByteArray):(ID key text).size≤key.size+64+text.size:=by
 unfold ID
 split
 ·omega
 ·rw[ByteArray.size_append,ByteArray.size_append,Ar]
  omega
theorem Ta(size:Nat)(key text:ByteArray)(w:World)(h1:1≤size)(hsz:size≤32)(hk:key.size≤64)(ht:text.size≤562949953421312):Calls prog 108 #[.int .i64 (size:Int),.string key,.string text] w fun e w'=>e=.returned (.string (Ox size key text))∧Below w.heap.size w w':=by
 have WH:=Vr (size:=size) (kl:=key.size) (by omega) hk;have hsa:(ID key text).size≤1125899906842624:=by have:=SZ key text;omega
 have HF:Hid (mkS size (DL (stF (ID key text) (h0F size key.size) (nbF (ID key text).size)))=Ox size key text):=Hid.mk rfl;generalize Ox size key text=RES at *;go_enter func108,ntmps108;go_wp2_with fail;refine(Jv _).mono ?_;rintro e v1 ⟨rfl,gB,hb1⟩;have c0:=gB.cell 0 (by omega);have f0:=gB.free 0;have X1:W32 (Ap (bgn 0) 16842752):=A9 (Gh 0) (by unfold W32;omega);have X2:W32 (Ap (Ap (bgn 0) 16842752) (256*(key.size:Int))):=A9 X1 (by unfold W32;omega);have x1:bits .xor .i64 (bgn 0) 16842752=Ap (bgn 0) 16842752:=Ep (Gh 0) (by unfold W32;omega);have x2:bits .xor .i64 (Ap (bgn 0) 16842752) (256*(key.size:Int))=Ap (Ap (bgn 0) 16842752) (256*(key.size:Int)):=Ep X1 (by unfold W32;omega);have x3:bits .xor .i64 (Ap (Ap (bgn 0) 16842752) (256*(key.size:Int))) (size:Int)=Ap (Ap (Ap (bgn 0) 16842752) (256*(key.size:Int))) (size:Int):=Ep X2 (by unfold W32;omega);have hH:RowAt (v1.setCell ⟨w.heap.size,0,none⟩ (.int .i64 (Ap (Ap (Ap (bgn 0) 16842752) (256*(key.size:Int))) (size:Int)))) w.heap.size .i64 3 8 (h0F size key.size):=gB.row.set 0 _;have hB:Below w.heap.size w (v1.setCell ⟨w.heap.size,0,none⟩ (.int .i64 (Ap (Ap (Ap (bgn 0) 16842752) (256*(key.size:Int))) (size:Int)))):=Below.setCell (p:=⟨w.heap.size,0,none⟩) hb1 (Acg _) _;clear gB hb1 X1 X2;generalize h0F size key.size=H0 at *
 by_cases hk0:key.size=0
 ·have HE:Hid (key=⟨#[]⟩):=Hid.mk (SU hk0)
  have hall:ID key text=text:=by unfold ID;rw[if_pos hk0]
  rw[hall] at HF hsa;clear hk0;obtain⟨al,hal⟩:∃al,al=text:=⟨_,rfl⟩;rw[←hal] at HF hsa
  go_wp2_with (refine Ae (by rfl) (Js rfl (by rfl) (by rfl) HE.out) ?_)
  clear c0 f0 x1 x2 x3;rw[←hal];clear hal hall ht HE;have HN:Hid ((al.size=0→nbF al.size=1)∧(0<al.size→64*(nbF al.size-1)<al.size∧al.size≤64*nbF al.size)∧1≤nbF al.size):=Hid.mk (by unfold nbF;split<;>omega);generalize nbF al.size=N at *;go_wp2_with fail
  go_loopg [9] N (fun gm iv v=>∃k p:Nat,Hid (gm+k=N)∧Hid (p=64*k)∧iv=.int .i64 (p:Int)∧RowAt v w.heap.size .i64 3 8 (stF al H0 k)∧Hid (∀i,i<8→W32 (stF al H0 k i))∧Below w.heap.size w v)
  case atStart=>exact⟨0,0,Hid.mk rfl,Hid.mk rfl,rfl,hH,Hid.mk WH,hB⟩
  case round =>
   clear hH hB WH;obtain⟨k,p,HK,HP,rfl,hH,HW,hB⟩:=hrel;have hkN:k≤N:=by have:=HK.out;omega
   by_cases hlt:k<N
   ·by_cases hk0:k=0
    ·have hz:decide (p=0)=true:=by have:=HP.out;simp;omega
     have hat:p≤al.size:=by have:=HN.out;have:=HP.out;omega
     clear hk0;obtain⟨d,HD⟩:∃d,Hid (al.size-p=d):=⟨_,Hid.mk rfl⟩;obtain⟨mn,HM⟩:∃mn,Hid (min 64 d=mn):=⟨_,Hid.mk rfl⟩;obtain⟨q,HQ⟩:∃q,Hid (p+mn=q):=⟨_,Hid.mk rfl⟩;have hm1:mn≤64:=by have:=HM.out;omega
     have hm2:q≤al.size:=by have:=HD.out;have:=HM.out;have:=HQ.out;omega
     have hpq:p≤q:=by have:=HQ.out;omega
     have hsl:∀w,(Instr.sliceAt 9 (.string al) (some (.int .i64 (p:Int))) (some (.int .i64 (q:Int))) none).run prog w=.ok (.string (mkS mn (fun j=>txt al (p+j)))) w:=fun w=>by
      rw[JR al _ _ w hpq hm2,Kx al _ _ hm2,←HQ.out,Ac0]
     have HBK:=Hid.mk (Hd al p mn (by have:=HD.out;have:=HM.out;omega));have HNX:Hid (Bh (stF al H0 k) (fun j=>txt al (p+j)) (q:Int) (decide (q=al.size))=stF al H0 (k+1)):=Hid.mk (by rw[←HQ.out,←HM.out,←HD.out,HP.out];rfl);generalize stF al H0 k=hk at *
     go_wp2_with (first|(refine Ae (by rfl) (CO (m:=p) (n:=0) rfl (by rfl) (by rfl) hz) ?_)|(refine Ae (by rfl) (Fw (m:=al.size) (n:=p) rfl (by rfl) (by rfl) HD.out hat (by omega)) ?_)|(refine Ae (by rfl) (Hc (m:=64) (n:=d) rfl (by rfl) (by rfl) HM.out) ?_)|(refine Dq (n:=64) (by rfl) (by rfl) (by omega) ?_;intro v2 gK hb2;refine Hid.out ?_))
     have hH2:=hH.below hb2 hH.lt;have hB2:=hB.trans (hb2.mono hB.size);have hz1:=hB.size;have hz2:=hH.lt;clear hb2 hH hB;refine Hid.mk ?_
     go_wp2_with (first|(refine Ae (by rfl) (BV (m:=p) (n:=mn) rfl (by rfl) (by rfl) HQ.out (by omega)) ?_)|(refine Ae (by rfl) (C4 (v:=.string al) (u:=.int .i64 (p:Int)) (u':=.int .i64 (q:Int)) rfl (by rfl) (by rfl) (by rfl) (hsl _)) ?_)|(refine EL (by rfl) (by rfl) gK (fun j _=>Bn _ _) hm1 (by omega) ?_;intro v3 g3 o3;refine Hid.out ?_))
     have hH3:=hH2.only o3 (by omega);have hB3:=hB2.trans (o3.below (by omega));replace g3:=g3.congr HBK.out;clear o3 hH2 hB2 gK;refine Hid.mk ?_
     go_wp2_with (first|(refine Ae (by rfl) (BV (m:=p) (n:=mn) rfl (by rfl) (by rfl) HQ.out (by omega)) ?_)|(refine Ae (by rfl) (CO (m:=q) (n:=al.size) rfl (by rfl) (by rfl) rfl) ?_))
     refine(Ha w.heap.size 8 _ 64 hk _ _ _ _ hH3 g3.row HW.out (fun j _=>Bn _ _) (by omega)).mono ?_;rintro e v4 ⟨rfl,hH4,hW4,hT4⟩;rw[HNX.out] at hH4 hW4;have hB4:=hB3.trans (CC hT4 (Acg _) hB3.size);clear hT4 hH3 hB3 g3 HNX HBK hsl
     go_wp2_with (refine Ae (by rfl) (BV (m:=p) (n:=64) rfl (by rfl) (by rfl) rfl (by omega)) ?_)
     go_roundg (N-(k+1))
     case rel=>exact⟨k+1,p+64,Hid.mk (by omega),Hid.mk (by have:=HP.out;omega),by go_num,hH4,Hid.mk hW4,hB4⟩
     case measure=>have:=HK.out;omega
    ·have hz:decide (p=0)=false:=by have:=HP.out;simp;omega
     have hat:p≤al.size:=by have:=HN.out;have:=HP.out;omega
     have hl:decide (p<al.size)=true:=by have:=HN.out;have:=HP.out;simp;omega
     clear hk0;obtain⟨d,HD⟩:∃d,Hid (al.size-p=d):=⟨_,Hid.mk rfl⟩;obtain⟨mn,HM⟩:∃mn,Hid (min 64 d=mn):=⟨_,Hid.mk rfl⟩;obtain⟨q,HQ⟩:∃q,Hid (p+mn=q):=⟨_,Hid.mk rfl⟩;have hm1:mn≤64:=by have:=HM.out;omega
     have hm2:q≤al.size:=by have:=HD.out;have:=HM.out;have:=HQ.out;omega
     have hpq:p≤q:=by have:=HQ.out;omega
     have hsl:∀w,(Instr.sliceAt 9 (.string al) (some (.int .i64 (p:Int))) (some (.int .i64 (q:Int))) none).run prog w=.ok (.string (mkS mn (fun j=>txt al (p+j)))) w:=fun w=>by
      rw[JR al _ _ w hpq hm2,Kx al _ _ hm2,←HQ.out,Ac0]
     have HBK:=Hid.mk (Hd al p mn (by have:=HD.out;have:=HM.out;omega));have HNX:Hid (Bh (stF al H0 k) (fun j=>txt al (p+j)) (q:Int) (decide (q=al.size))=stF al H0 (k+1)):=Hid.mk (by rw[←HQ.out,←HM.out,←HD.out,HP.out];rfl);generalize stF al H0 k=hk at *
     go_wp2_with (first|(refine Ae (by rfl) (CO (m:=p) (n:=0) rfl (by rfl) (by rfl) hz) ?_)|(refine Ae (by rfl) (Hb (m:=p) (n:=al.size) rfl (by rfl) (by rfl) hl) ?_)|(refine Ae (by rfl) (Fw (m:=al.size) (n:=p) rfl (by rfl) (by rfl) HD.out hat (by omega)) ?_)|(refine Ae (by rfl) (Hc (m:=64) (n:=d) rfl (by rfl) (by rfl) HM.out) ?_)|(refine Dq (n:=64) (by rfl) (by rfl) (by omega) ?_;intro v2 gK hb2;refine Hid.out ?_))
     have hH2:=hH.below hb2 hH.lt;have hB2:=hB.trans (hb2.mono hB.size);have hz1:=hB.size;have hz2:=hH.lt;clear hb2 hH hB;refine Hid.mk ?_
     go_wp2_with (first|(refine Ae (by rfl) (BV (m:=p) (n:=mn) rfl (by rfl) (by rfl) HQ.out (by omega)) ?_)|(refine Ae (by rfl) (C4 (v:=.string al) (u:=.int .i64 (p:Int)) (u':=.int .i64 (q:Int)) rfl (by rfl) (by rfl) (by rfl) (hsl _)) ?_)|(refine EL (by rfl) (by rfl) gK (fun j _=>Bn _ _) hm1 (by omega) ?_;intro v3 g3 o3;refine Hid.out ?_))
     have hH3:=hH2.only o3 (by omega);have hB3:=hB2.trans (o3.below (by omega));replace g3:=g3.congr HBK.out;clear o3 hH2 hB2 gK;refine Hid.mk ?_
     go_wp2_with (first|(refine Ae (by rfl) (BV (m:=p) (n:=mn) rfl (by rfl) (by rfl) HQ.out (by omega)) ?_)|(refine Ae (by rfl) (CO (m:=q) (n:=al.size) rfl (by rfl) (by rfl) rfl) ?_))
     refine(Ha w.heap.size 8 _ 64 hk _ _ _ _ hH3 g3.row HW.out (fun j _=>Bn _ _) (by omega)).mono ?_;rintro e v4 ⟨rfl,hH4,hW4,hT4⟩;rw[HNX.out] at hH4 hW4;have hB4:=hB3.trans (CC hT4 (Acg _) hB3.size);clear hT4 hH3 hB3 g3 HNX HBK hsl
     go_wp2_with (refine Ae (by rfl) (BV (m:=p) (n:=64) rfl (by rfl) (by rfl) rfl (by omega)) ?_)
     go_roundg (N-(k+1))
     case rel=>exact⟨k+1,p+64,Hid.mk (by omega),Hid.mk (by have:=HP.out;omega),by go_num,hH4,Hid.mk hW4,hB4⟩
     case measure=>have:=HK.out;omega
   ·have hk2:k=N:=by omega
    subst hk2;have hz:decide (p=0)=false:=by have:=HN.out;have:=HP.out;simp;omega
    have hl:decide (p<al.size)=false:=by have:=HN.out;have:=HP.out;simp;omega
    generalize stF al H0 k=HH at *;clear hlt hkN HK
    go_wp2_with (first|(refine Ae (by rfl) (CO (m:=p) (n:=0) rfl (by rfl) (by rfl) hz) ?_)|(refine Ae (by rfl) (Hb (m:=p) (n:=al.size) rfl (by rfl) (by rfl) hl) ?_))
    generalize wr=wo at *
    go_loopg [12,13] size (fun gm ov iv v=>∃i:Nat,Hid (gm+i=size)∧iv=.int .i64 (i:Int)∧v.ownsRow wo.heap.size 5 1 ov i (AC .u8 i (DL HH))∧Below wo.heap.size wo v)
    case atStart=>exact⟨0,Hid.mk rfl,rfl,World.ownsRow_nil _ _ _ _,Below.refl _ _⟩
    case round =>
     obtain⟨i,HI,rfl,hO,hb⟩:=hrel;have hi:i≤size:=by have:=HI.out;omega
     by_cases hil:i<size
     ·obtain⟨qd,HQD⟩:∃qd,Hid (i/4=qd):=⟨_,Hid.mk rfl⟩
      obtain⟨rm,HRM⟩:∃rm,Hid (i%4=rm):=⟨_,Hid.mk rfl⟩;obtain⟨sh,HSH⟩:∃sh,Hid (8*rm=sh):=⟨_,Hid.mk rfl⟩;have hqd:qd<8:=by have:=HQD.out;omega
      have hrm:rm<4:=by have:=HRM.out;omega
      have c0:=(hH.below hb hH.lt).cell qd hqd;have HOE:Hid (HH qd/256 ^ rm%256=DL HH i):=Hid.mk (by rw[←HQD.out,←HRM.out];rfl)
      go_wp2_with (first|(refine Ae (by rfl) (MG (m:=i) (n:=4) rfl (by rfl) (by rfl) HQD.out (by omega) (by omega)) ?_)|(refine Ae (by rfl) (MD (m:=i) (n:=4) rfl (by rfl) (by rfl) HRM.out (by omega)) ?_)|(refine Ae (by rfl) (MC (m:=8) (n:=rm) rfl (by rfl) (by rfl) HSH.out (by omega)) ?_)|(refine Ae (by rfl) (MH (r:=rm) rfl (by rfl) (by rfl) HSH.out hrm) ?_)|(refine Ae (by rfl) (AF rfl (by rfl) (Ky _ _)) ?_)|(refine Vs (by rfl) ?_;intro v2 g2 hb2;refine Hid.out ?_))
      rw[HOE.out] at g2;have hz:=hb.size;replace hO:=Bp hO hb2;replace hb:=hb.trans (hb2.mono hb.size);have HBS:=Hid.mk hb.size;clear hb2 c0;refine Hid.mk ?_
      go_wp2_with (at_builtin;refine Db rfl _ _ 81 5 .u8 1 underlying81 infoByte (by decide) (by rfl) (n:=i) (m:=1) (by rfl) hO (by rfl) (r:=fun _=>DL HH i) (fun j hj=>by rw[Acl];exact g2.cell j hj) (by omega) HBS.out ?_;intro vb v3 h3 hb3;refine Hid.out ?_)
      rw[B2 (DV i (DL HH))] at h3;replace hb:=hb.trans hb3;clear hb3 hO g2 HBS HOE;refine Hid.mk ?_;go_wp2_with fail
      go_roundg (size-(i+1))
      case rel=>exact⟨i+1,Hid.mk (by omega),by go_num,h3,hb⟩
      case measure=>have:=HI.out;omega
     ·have hi2:i=size:=by omega
      subst hi2;obtain⟨bo,co,rfl,hbo,hco,hR⟩:=CU hO (by omega);have hcv:=AD i bo co wr i (DL HH) hR (fun j _=>Ie HH j) rfl;have hBf:=hB.trans (hb.mono hB.size);clear hO hb hR;go_wp2_with fail
      go_ret
      exact⟨by rw[←HF.out];rfl,hBf⟩
 ·have HE:Hid (key≠⟨#[]⟩):=Hid.mk (fun e=>hk0 (by rw[e];rfl))
  have hall:key++mkS (64-key.size) (fun _=>0)++text=ID key text:=by unfold ID;rw[if_neg hk0]
  have hL1:key.size+(mkS (64-key.size) (fun _=>0)).size≤9223372036854775807:=by rw[Ar];omega
  have hL2:(key++mkS (64-key.size) (fun _=>0)).size+text.size≤9223372036854775807:=by rw[ByteArray.size_append,Ar];omega
  obtain⟨zn,HZ⟩:∃zn,Hid (64-key.size=zn):=⟨_,Hid.mk rfl⟩;rw[HZ.out] at hall hL1 hL2;have hzn:zn≤64:=by have:=HZ.out;omega
  have HAL:=Hid.mk hall;have hks:key.size≤64:=by omega
  clear hall hk0;generalize ID key text=al at *
  go_wp2_with (first|(refine Ae (by rfl) (FH rfl (by rfl) (by rfl) HE.out) ?_)|(refine Ae (by rfl) (Fw (m:=64) (n:=key.size) rfl (by rfl) (by rfl) HZ.out hks (by omega)) ?_)|(refine Dq (n:=zn) (by rfl) (by rfl) hzn ?_;intro v2 gZ hb2;refine Hid.out ?_))
  clear c0 f0 x1 x2 x3;replace hH:=hH.below hb2 hH.lt;replace hB:=hB.trans (hb2.mono hB.size);replace gZ:ArrAt v2 v1.heap.size .u8 5 zn (fun _=>0):=by simpa using gZ
  have hcv:=AD zn v1.heap.size zn v2 zn (fun _=>0) gZ.row (fun j _=>by omega) rfl;clear hb2 gZ;refine Hid.mk ?_
  go_wp2_with (first|(refine Ae (by rfl) (Be rfl (by rfl) (by rfl) hL1) ?_)|(refine Ae (by rfl) (Be rfl (by rfl) (by rfl) hL2) ?_))
  rw[HAL.out];clear HAL hL1 hL2 HZ hcv HE hzn ht;have HN:Hid ((al.size=0→nbF al.size=1)∧(0<al.size→64*(nbF al.size-1)<al.size∧al.size≤64*nbF al.size)∧1≤nbF al.size):=Hid.mk (by unfold nbF;split<;>omega);generalize nbF al.size=N at *;go_wp2_with fail
  go_loopg [9] N (fun gm iv v=>∃k p:Nat,Hid (gm+k=N)∧Hid (p=64*k)∧iv=.int .i64 (p:Int)∧RowAt v w.heap.size .i64 3 8 (stF al H0 k)∧Hid (∀i,i<8→W32 (stF al H0 k i))∧Below w.heap.size w v)
  case atStart=>exact⟨0,0,Hid.mk rfl,Hid.mk rfl,rfl,hH,Hid.mk WH,hB⟩
  case round =>
   clear hH hB WH;obtain⟨k,p,HK,HP,rfl,hH,HW,hB⟩:=hrel;have hkN:k≤N:=by have:=HK.out;omega
   by_cases hlt:k<N
   ·by_cases hk0:k=0
    ·have hz:decide (p=0)=true:=by have:=HP.out;simp;omega
     have hat:p≤al.size:=by have:=HN.out;have:=HP.out;omega
     clear hk0;obtain⟨d,HD⟩:∃d,Hid (al.size-p=d):=⟨_,Hid.mk rfl⟩;obtain⟨mn,HM⟩:∃mn,Hid (min 64 d=mn):=⟨_,Hid.mk rfl⟩;obtain⟨q,HQ⟩:∃q,Hid (p+mn=q):=⟨_,Hid.mk rfl⟩;have hm1:mn≤64:=by have:=HM.out;omega
     have hm2:q≤al.size:=by have:=HD.out;have:=HM.out;have:=HQ.out;omega
     have hpq:p≤q:=by have:=HQ.out;omega
     have hsl:∀w,(Instr.sliceAt 9 (.string al) (some (.int .i64 (p:Int))) (some (.int .i64 (q:Int))) none).run prog w=.ok (.string (mkS mn (fun j=>txt al (p+j)))) w:=fun w=>by
      rw[JR al _ _ w hpq hm2,Kx al _ _ hm2,←HQ.out,Ac0]
     have HBK:=Hid.mk (Hd al p mn (by have:=HD.out;have:=HM.out;omega));have HNX:Hid (Bh (stF al H0 k) (fun j=>txt al (p+j)) (q:Int) (decide (q=al.size))=stF al H0 (k+1)):=Hid.mk (by rw[←HQ.out,←HM.out,←HD.out,HP.out];rfl);generalize stF al H0 k=hk at *
     go_wp2_with (first|(refine Ae (by rfl) (CO (m:=p) (n:=0) rfl (by rfl) (by rfl) hz) ?_)|(refine Ae (by rfl) (Fw (m:=al.size) (n:=p) rfl (by rfl) (by rfl) HD.out hat (by omega)) ?_)|(refine Ae (by rfl) (Hc (m:=64) (n:=d) rfl (by rfl) (by rfl) HM.out) ?_)|(refine Dq (n:=64) (by rfl) (by rfl) (by omega) ?_;intro v2 gK hb2;refine Hid.out ?_))
     have hH2:=hH.below hb2 hH.lt;have hB2:=hB.trans (hb2.mono hB.size);have hz1:=hB.size;have hz2:=hH.lt;clear hb2 hH hB;refine Hid.mk ?_
     go_wp2_with (first|(refine Ae (by rfl) (BV (m:=p) (n:=mn) rfl (by rfl) (by rfl) HQ.out (by omega)) ?_)|(refine Ae (by rfl) (C4 (v:=.string al) (u:=.int .i64 (p:Int)) (u':=.int .i64 (q:Int)) rfl (by rfl) (by rfl) (by rfl) (hsl _)) ?_)|(refine EL (by rfl) (by rfl) gK (fun j _=>Bn _ _) hm1 (by omega) ?_;intro v3 g3 o3;refine Hid.out ?_))
     have hH3:=hH2.only o3 (by omega);have hB3:=hB2.trans (o3.below (by omega));replace g3:=g3.congr HBK.out;clear o3 hH2 hB2 gK;refine Hid.mk ?_
     go_wp2_with (first|(refine Ae (by rfl) (BV (m:=p) (n:=mn) rfl (by rfl) (by rfl) HQ.out (by omega)) ?_)|(refine Ae (by rfl) (CO (m:=q) (n:=al.size) rfl (by rfl) (by rfl) rfl) ?_))
     refine(Ha w.heap.size 8 _ 64 hk _ _ _ _ hH3 g3.row HW.out (fun j _=>Bn _ _) (by omega)).mono ?_;rintro e v4 ⟨rfl,hH4,hW4,hT4⟩;rw[HNX.out] at hH4 hW4;have hB4:=hB3.trans (CC hT4 (Acg _) hB3.size);clear hT4 hH3 hB3 g3 HNX HBK hsl
     go_wp2_with (refine Ae (by rfl) (BV (m:=p) (n:=64) rfl (by rfl) (by rfl) rfl (by omega)) ?_)
     go_roundg (N-(k+1))
     case rel=>exact⟨k+1,p+64,Hid.mk (by omega),Hid.mk (by have:=HP.out;omega),by go_num,hH4,Hid.mk hW4,hB4⟩
     case measure=>have:=HK.out;omega
    ·have hz:decide (p=0)=false:=by have:=HP.out;simp;omega
     have hat:p≤al.size:=by have:=HN.out;have:=HP.out;omega
     have hl:decide (p<al.size)=true:=by have:=HN.out;have:=HP.out;simp;omega
     clear hk0;obtain⟨d,HD⟩:∃d,Hid (al.size-p=d):=⟨_,Hid.mk rfl⟩;obtain⟨mn,HM⟩:∃mn,Hid (min 64 d=mn):=⟨_,Hid.mk rfl⟩;obtain⟨q,HQ⟩:∃q,Hid (p+mn=q):=⟨_,Hid.mk rfl⟩;have hm1:mn≤64:=by have:=HM.out;omega
     have hm2:q≤al.size:=by have:=HD.out;have:=HM.out;have:=HQ.out;omega
     have hpq:p≤q:=by have:=HQ.out;omega
     have hsl:∀w,(Instr.sliceAt 9 (.string al) (some (.int .i64 (p:Int))) (some (.int .i64 (q:Int))) none).run prog w=.ok (.string (mkS mn (fun j=>txt al (p+j)))) w:=fun w=>by
      rw[JR al _ _ w hpq hm2,Kx al _ _ hm2,←HQ.out,Ac0]
     have HBK:=Hid.mk (Hd al p mn (by have:=HD.out;have:=HM.out;omega));have HNX:Hid (Bh (stF al H0 k) (fun j=>txt al (p+j)) (q:Int) (decide (q=al.size))=stF al H0 (k+1)):=Hid.mk (by rw[←HQ.out,←HM.out,←HD.out,HP.out];rfl);generalize stF al H0 k=hk at *
     go_wp2_with (first|(refine Ae (by rfl) (CO (m:=p) (n:=0) rfl (by rfl) (by rfl) hz) ?_)|(refine Ae (by rfl) (Hb (m:=p) (n:=al.size) rfl (by rfl) (by rfl) hl) ?_)|(refine Ae (by rfl) (Fw (m:=al.size) (n:=p) rfl (by rfl) (by rfl) HD.out hat (by omega)) ?_)|(refine Ae (by rfl) (Hc (m:=64) (n:=d) rfl (by rfl) (by rfl) HM.out) ?_)|(refine Dq (n:=64) (by rfl) (by rfl) (by omega) ?_;intro v2 gK hb2;refine Hid.out ?_))
     have hH2:=hH.below hb2 hH.lt;have hB2:=hB.trans (hb2.mono hB.size);have hz1:=hB.size;have hz2:=hH.lt;clear hb2 hH hB;refine Hid.mk ?_
     go_wp2_with (first|(refine Ae (by rfl) (BV (m:=p) (n:=mn) rfl (by rfl) (by rfl) HQ.out (by omega)) ?_)|(refine Ae (by rfl) (C4 (v:=.string al) (u:=.int .i64 (p:Int)) (u':=.int .i64 (q:Int)) rfl (by rfl) (by rfl) (by rfl) (hsl _)) ?_)|(refine EL (by rfl) (by rfl) gK (fun j _=>Bn _ _) hm1 (by omega) ?_;intro v3 g3 o3;refine Hid.out ?_))
     have hH3:=hH2.only o3 (by omega);have hB3:=hB2.trans (o3.below (by omega));replace g3:=g3.congr HBK.out;clear o3 hH2 hB2 gK;refine Hid.mk ?_
     go_wp2_with (first|(refine Ae (by rfl) (BV (m:=p) (n:=mn) rfl (by rfl) (by rfl) HQ.out (by omega)) ?_)|(refine Ae (by rfl) (CO (m:=q) (n:=al.size) rfl (by rfl) (by rfl) rfl) ?_))
     refine(Ha w.heap.size 8 _ 64 hk _ _ _ _ hH3 g3.row HW.out (fun j _=>Bn _ _) (by omega)).mono ?_;rintro e v4 ⟨rfl,hH4,hW4,hT4⟩;rw[HNX.out] at hH4 hW4;have hB4:=hB3.trans (CC hT4 (Acg _) hB3.size);clear hT4 hH3 hB3 g3 HNX HBK hsl
     go_wp2_with (refine Ae (by rfl) (BV (m:=p) (n:=64) rfl (by rfl) (by rfl) rfl (by omega)) ?_)
     go_roundg (N-(k+1))
     case rel=>exact⟨k+1,p+64,Hid.mk (by omega),Hid.mk (by have:=HP.out;omega),by go_num,hH4,Hid.mk hW4,hB4⟩
     case measure=>have:=HK.out;omega
   ·have hk2:k=N:=by omega
    subst hk2;have hz:decide (p=0)=false:=by have:=HN.out;have:=HP.out;simp;omega
    have hl:decide (p<al.size)=false:=by have:=HN.out;have:=HP.out;simp;omega
    generalize stF al H0 k=HH at *;clear hlt hkN HK
    go_wp2_with (first|(refine Ae (by rfl) (CO (m:=p) (n:=0) rfl (by rfl) (by rfl) hz) ?_)|(refine Ae (by rfl) (Hb (m:=p) (n:=al.size) rfl (by rfl) (by rfl) hl) ?_))
    generalize wr=wo at *
    go_loopg [12,13] size (fun gm ov iv v=>∃i:Nat,Hid (gm+i=size)∧iv=.int .i64 (i:Int)∧v.ownsRow wo.heap.size 5 1 ov i (AC .u8 i (DL HH))∧Below wo.heap.size wo v)
    case atStart=>exact⟨0,Hid.mk rfl,rfl,World.ownsRow_nil _ _ _ _,Below.refl _ _⟩
    case round =>
     obtain⟨i,HI,rfl,hO,hb⟩:=hrel;have hi:i≤size:=by have:=HI.out;omega
     by_cases hil:i<size
     ·obtain⟨qd,HQD⟩:∃qd,Hid (i/4=qd):=⟨_,Hid.mk rfl⟩
      obtain⟨rm,HRM⟩:∃rm,Hid (i%4=rm):=⟨_,Hid.mk rfl⟩;obtain⟨sh,HSH⟩:∃sh,Hid (8*rm=sh):=⟨_,Hid.mk rfl⟩;have hqd:qd<8:=by have:=HQD.out;omega
      have hrm:rm<4:=by have:=HRM.out;omega
      have c0:=(hH.below hb hH.lt).cell qd hqd;have HOE:Hid (HH qd/256 ^ rm%256=DL HH i):=Hid.mk (by rw[←HQD.out,←HRM.out];rfl)
      go_wp2_with (first|(refine Ae (by rfl) (MG (m:=i) (n:=4) rfl (by rfl) (by rfl) HQD.out (by omega) (by omega)) ?_)|(refine Ae (by rfl) (MD (m:=i) (n:=4) rfl (by rfl) (by rfl) HRM.out (by omega)) ?_)|(refine Ae (by rfl) (MC (m:=8) (n:=rm) rfl (by rfl) (by rfl) HSH.out (by omega)) ?_)|(refine Ae (by rfl) (MH (r:=rm) rfl (by rfl) (by rfl) HSH.out hrm) ?_)|(refine Ae (by rfl) (AF rfl (by rfl) (Ky _ _)) ?_)|(refine Vs (by rfl) ?_;intro v2 g2 hb2;refine Hid.out ?_))
      rw[HOE.out] at g2;have hz:=hb.size;replace hO:=Bp hO hb2;replace hb:=hb.trans (hb2.mono hb.size);have HBS:=Hid.mk hb.size;clear hb2 c0;refine Hid.mk ?_
      go_wp2_with (at_builtin;refine Db rfl _ _ 81 5 .u8 1 underlying81 infoByte (by decide) (by rfl) (n:=i) (m:=1) (by rfl) hO (by rfl) (r:=fun _=>DL HH i) (fun j hj=>by rw[Acl];exact g2.cell j hj) (by omega) HBS.out ?_;intro vb v3 h3 hb3;refine Hid.out ?_)
      rw[B2 (DV i (DL HH))] at h3;replace hb:=hb.trans hb3;clear hb3 hO g2 HBS HOE;refine Hid.mk ?_;go_wp2_with fail
      go_roundg (size-(i+1))
      case rel=>exact⟨i+1,Hid.mk (by omega),by go_num,h3,hb⟩
      case measure=>have:=HI.out;omega
     ·have hi2:i=size:=by omega
      subst hi2;obtain⟨bo,co,rfl,hbo,hco,hR⟩:=CU hO (by omega);have hcv:=AD i bo co wr i (DL HH) hR (fun j _=>Ie HH j) rfl;have hBf:=hB.trans (hb.mono hB.size);clear hO hb hR;go_wp2_with fail
      go_ret
      exact⟨by rw[←HF.out];rfl,hBf⟩
theorem J0(args:Array Value)(w:World):(callFunc 108 args).run prog w=.ok (.enter 108 args) w:=by kernel_rfl
def BJ(text:ByteArray):Nat→Int:=DL (stF text (h0F 32 0) (nbF text.size))
theorem Vt(text:ByteArray):Ox 32 ⟨#[]⟩ text=mkS 32 (BJ text):=by
 unfold Ox BJ;have e:ID ⟨#[]⟩ text=text:=by unfold ID;exact if_pos rfl
 rw[e];rfl
theorem N5(text:ByteArray)(w:World)(ht:text.size≤562949953421312):Calls prog 108 #[.int .i64 32,.string ⟨#[]⟩,.string text] w fun e w'=>e=.returned (.string (mkS 32 (BJ text)))∧Below w.heap.size w w':=by
 have h:=Ta 32 ⟨#[]⟩ text w (by omega) (by omega) (by decide) ht;rw[Vt] at h;exact h
theorem IF(text:ByteArray)(w:World)(ht:text.size≤562949953421312):Calls prog 72 #[.string text] w fun e w'=>e=.returned (.agg (WA .u8 32 (BJ text)))∧Below w.heap.size w w':=by
 have g0:ArrAt ((w.alloc (.cells (WA .u8 32 fun _=>0) 22)).alloc (.cells (WA .u8 32 fun _=>0) 22)) w.heap.size .u8 22 32 (fun _=>0):=heap_alloc2_old w _ _;have g1:ArrAt ((w.alloc (.cells (WA .u8 32 fun _=>0) 22)).alloc (.cells (WA .u8 32 fun _=>0) 22)) (w.heap.size+1) .u8 22 32 (fun _=>0):=heap_alloc2_new w _ _;have hB:Below w.heap.size w ((w.alloc (.cells (WA .u8 32 fun _=>0) 22)).alloc (.cells (WA .u8 32 fun _=>0) 22)):=((Below.refl _ w).alloc (by simp) _).alloc (by simp) _;have HSM:=Hid.mk (fun w=>N5 text w ht);go_enter func72,ntmps72;go_wp2_with fail;refine AJ (fun v=>ArrAt v (w.heap.size+1) .u8 22 32 (fun _=>0)∧ArrAt v w.heap.size .u8 22 32 (fun _=>0)∧Below w.heap.size w v) ⟨g1,g0,hB⟩ ?_;clear g1 g0 hB;rintro v0 ⟨g1,g0,hB⟩;refine Ai (Below w.heap.size w) v0.heap.size
  [((w.heap.size+1),once (WA .u8 32 (fun _=>0)) 22 3 (WA .u8 32 (over (fun _=>0) 0 32 (BJ text)))),(w.heap.size,AQ (WA .u8 32 (fun _=>0)) 22)]
  [kv (.slice (some ⟨(w.heap.size+1),0,none⟩) 32 32),kv (.string text),kv (.string (mkS 32 (BJ text))),.val fun _=>True]
  [.none,.none,.none,.base 0 1]
  [some 4,some 5,some 6,some 7]
  [(3,.pointer (some ⟨(w.heap.size+1),0,none⟩)),(0,.string text)]
  [[],[],[.slot 1],[.slot 0,.slot 2,.base 0 0]]
  [.base 0 1,.base 1 0] [4,5,6,7]
  rfl (by kernel_rfl) ⟨rfl,rfl,trivial⟩ (Below.drew hB) (Acg _) ⟨⟨g1.lt,Al g1⟩,⟨g0.lt,Al g0⟩,trivial⟩ ⟨⟨(show ((w.heap.size+1):Nat)≠w.heap.size from by omega),trivial⟩,trivial,trivial⟩ (A8 hB.size ⟨by omega,by omega,trivial⟩)
  ⟨
   (fun _ _ ww _ _ _ fr _=>sV (Ci (v:=.pointer (some ⟨(w.heap.size+1),0,none⟩)) rfl fr.1 (M2 (w.heap.size+1) ww))),
   sL fun f _=>sV (Ab rfl f.2.1),
   (fun _ _ ww _ _ _ _ kn=>.inl ⟨trivial,fun K hK=>AH J0 rfl (Gu rfl rfl kn.1) (HSM.out ww) (fun w' hb=>hK _ _ ⟨Ac hb,rfl⟩)⟩),
   sL fun _ k=>.inl ⟨trivial,fun K hK=>Jt rfl k.1 k.2.1 (Ak k.2.2.1) (fun j _=>Ie _ j) (by omega) (by omega) (fun w2 hg ho=>hK _ _ ⟨⟨Ag ho,Al hg⟩,trivial⟩)⟩,
   trivial⟩ ?_
 intro vs own v1 hB1 hs1 kn inj;clear inj g1 g0 hB;have g1:ArrAt v1 (w.heap.size+1) .u8 22 32 (over (fun _=>0) 0 32 (BJ text)):=Ak kn.1;have g0:ArrAt v1 w.heap.size .u8 22 32 (fun _=>0):=Ak kn.2.1;have hB:=hB1;clear kn hB1 hs1;simp only[Am,Act.put,Aci,Acj,Ach];replace g1:=g1.congr (s':=BJ text) (fun j hj=>by unfold over;rw[if_pos (by omega),Nat.sub_zero])
 go_wp2_with (first|(refine Aq Af g1 (by rfl) ?_)|(refine A1 Af g0 (by rfl) (by rfl) ?_;intro v4 g4 o4;refine Hid.out ?_))
 refine Hid.mk ?_;go_wp2_with fail;exact bodyPost_ret (AE results72 Af g4 (by rfl)) rfl ⟨rfl,hB.trans (o4.below (Acg _))⟩
theorem Oy(args:Array Value)(w:World):(callFunc 72 args).run prog w=.ok (.enter 72 args) w:=by kernel_rfl
def BD(k:ByteArray)(c:Int)(i:Nat):Int:=Ap (txt k i) c
theorem N6{k:ByteArray}{c:Int}(hc:0≤c∧c<256)(i:Nat):0≤BD k c i∧BD k c i<256:=Nt (Bn k i) hc
def Dc(k:ByteArray)(c:Int)(n i:Nat):Int:=if i<n then BD k c i else 0
theorem Dd(k:ByteArray)(c:Int)(n:Nat){x:Int}(hx:x=txt k n):∀j,j<64→upd (Dc k c n) n (Ap x c) j=Dc k c (n+1) j:=fun j _=>by
 unfold upd Dc
 by_cases e:j=n
 ·subst e;rw[if_pos rfl,if_pos (by omega),hx];rfl
 ·rw[if_neg e]
  by_cases h:j<n
  ·rw[if_pos h,if_pos (by omega)]
  ·rw[if_neg h,if_neg (by omega)]
def Er(key:ByteArray):ByteArray:=if 64<key.size then mkS 32 (BJ key) else key
def EM(key text:ByteArray):Nat→Int:=BJ (mkS 64 (BD (Er key) 92)++mkS 32 (BJ (mkS 64 (BD (Er key) 54)++text)))
theorem Oz(key text:ByteArray)(w:World)(hk:key.size≤562949953421312)(ht:text.size≤281474976710656):Calls prog 96 #[.string key,.string text] w fun e w'=>e=.returned (.agg (WA .u8 32 (EM key text)))∧Below w.heap.size w w':=by
 have g4:ArrAt (w.alloc (.cells (WA .u8 32 fun _=>0) 22)) w.heap.size .u8 22 32 (fun _=>0):=heap_alloc_new w _;have hB:Below w.heap.size w (w.alloc (.cells (WA .u8 32 fun _=>0) 22)):=(Below.refl _ w).alloc (Acg _) _;obtain⟨kk,HKEY⟩:∃kk,Hid (Er key=kk):=⟨_,Hid.mk rfl⟩;have HKK:Hid (0≤(92:Int)∧(92:Int)<256):=Hid.mk (by omega);have HK2:Hid (0≤(54:Int)∧(54:Int)<256):=Hid.mk (by omega);have HL1:Hid ((mkS 64 (BD kk 54)).size+text.size≤9223372036854775807):=Hid.mk (by rw[Ar];omega);have HH1:Hid (∀w,Calls prog 108 #[.int .i64 32,.string ⟨#[]⟩,.string (mkS 64 (BD kk 54)++text)] w fun e w'=>e=.returned (.string (mkS 32 (BJ (mkS 64 (BD kk 54)++text))))∧Below w.heap.size w w'):=Hid.mk (fun w=>N5 _ w (by rw[ByteArray.size_append,Ar];omega));have HL2:Hid ((mkS 64 (BD kk 92)).size+(mkS 32 (BJ (mkS 64 (BD kk 54)++text))).size≤9223372036854775807):=Hid.mk (by rw[Ar,Ar];omega);have HH2:Hid (∀w,Calls prog 72 #[.string (mkS 64 (BD kk 92)++mkS 32 (BJ (mkS 64 (BD kk 54)++text)))] w fun e w'=>e=.returned (.agg (WA .u8 32 (BJ (mkS 64 (BD kk 92)++mkS 32 (BJ (mkS 64 (BD kk 54)++text))))))∧Below w.heap.size w w'):=Hid.mk (fun w=>IF _ w (by rw[ByteArray.size_append,Ar,Ar];omega));have HRES:Hid (EM key text=BJ (mkS 64 (BD kk 92)++mkS 32 (BJ (mkS 64 (BD kk 54)++text)))):=Hid.mk (by unfold EM;rw[HKEY.out]);generalize EM key text=MF at *
 by_cases hl:64<key.size
 ·have hlI:(64:Int)<(key.size:Int):=by omega
  have hKH:=N5 key;have HKE:Hid (mkS 32 (BJ key)=kk):=Hid.mk (by rw[←HKEY.out];unfold Er;rw[if_pos hl]);clear hl HKEY;go_enter func96,ntmps96;go_wp2_with fail;refine(hKH _ hk).mono ?_;rintro e v1 ⟨rfl,hb⟩;rw[HKE.out];have hz1:w.heap.size<v1.heap.size:=(g4.kept hb).lt;replace g4:=g4.kept hb;replace hB:=hB.trans (hb.mono hB.size);clear hb hKH HKE hlI hk
  go_wp2_with (refine Dq (n:=64) (by rfl) (by rfl) (by omega) ?_;intro v2 g5 hb2;refine Hid.out ?_)
  have hzb:=hB.size;replace g4:=g4.kept hb2;replace hB:=hB.trans (hb2.mono hB.size);have hz4:w.heap.size<v1.heap.size:=hz1;clear hb2;refine Hid.mk ?_
  go_wp2_with (refine Dq (n:=64) (by rfl) (by rfl) (by omega) ?_;intro v3 g6 hb3;refine Hid.out ?_)
  have hz5:=g5.lt;replace g4:=g4.kept hb3;replace g5:=g5.kept hb3;replace hB:=hB.trans (hb3.mono hB.size);clear hb3;refine Hid.mk ?_;obtain⟨c5,hc5⟩:∃c5,c5=v1.heap.size:=⟨_,rfl⟩;obtain⟨c6,hc6⟩:∃c6,c6=v2.heap.size:=⟨_,rfl⟩;rw[←hc5] at g5 hz5 ⊢;rw[←hc6] at g6 hz5 ⊢;have h56:c5<c6:=hz5;have h45:w.heap.size<c5:=by rw[hc5];exact hz4
  clear hz4 hz5 hc5 hc6;go_wp2_with fail
  go_loopg [7] 64 (fun gm iv v=>∃i:Nat,Hid (gm+i=64)∧iv=.int .i64 (i:Int)∧ArrAt v w.heap.size .u8 22 32 (fun _=>0)∧ArrAt v c5 .u8 5 64 (Dc kk 54 i)∧ArrAt v c6 .u8 5 64 (Dc kk 92 i)∧Below w.heap.size w v)
  case atStart=>exact⟨0,Hid.mk rfl,rfl,g4,g5.congr (fun j _=>by unfold Dc;rw[if_neg (by omega)]),g6.congr (fun j _=>by unfold Dc;rw[if_neg (by omega)]),hB⟩
  case round =>
   clear g4 g5 g6 hB;obtain⟨i,HI,rfl,g4,g5,g6,hB⟩:=hrel;have hi:i≤64:=by have:=HI.out;omega
   by_cases hil:i<64
   ·by_cases hik:i<kk.size
    ·have HX:Hid (0≤txt kk i∧txt kk i<256):=Hid.mk (Bn kk i)
     have c5c:=g5.cell i hil;have f5c:=g5.free i;have n5:=g5.set i (Ap (txt kk i) 54) hil;have o5:Only c5 wr _:=only_set (w:=wr) (g:=c5) (i:=i) (v:=.int .u8 (Ap (txt kk i) 54));have g6n:=g6.only o5 (by omega);have c6c:=g6n.cell i hil;have f6c:=g6n.free i;have n6:=g6n.set i (Ap (txt kk i) 92) hil;have o6:Only c6 (wr.setCell ⟨c5,i,none⟩ (.int .u8 (Ap (txt kk i) 54))) _:=only_set (w:=wr.setCell ⟨c5,i,none⟩ (.int .u8 (Ap (txt kk i) 54))) (g:=c6) (i:=i) (v:=.int .u8 (Ap (txt kk i) 92));have HN5:=Hid.mk ((n5.only o6 (by omega)).congr (s':=Dc kk 54 (i+1)) (Dd kk 54 i rfl));have HN6:=Hid.mk (n6.congr (s':=Dc kk 92 (i+1)) (Dd kk 92 i rfl));have HN4:=Hid.mk ((g4.only o5 (by omega)).only o6 (by omega));have HNB:=Hid.mk ((hB.trans (o5.below (by omega))).trans (o6.below (by omega)));clear n5 n6 o5 o6 g5 g6 g4 hB g6n
     go_wp2_with (first|(refine Ae (by rfl) (Ew rfl (by rfl) (by rfl) HX.out (by omega)) ?_)|(refine Ae (by rfl) (Gx (j:=i) rfl (by rfl) (by rfl) hik) ?_))
     go_roundg (64-(i+1))
     case rel=>exact⟨i+1,Hid.mk (by omega),by go_num,HN4.out,HN5.out,HN6.out,HNB.out⟩
     case measure=>have:=HI.out;omega
    ·have HX:Hid (0≤(0:Int)∧(0:Int)<256):=Hid.mk (by omega)
     have c5c:=g5.cell i hil;have f5c:=g5.free i;have n5:=g5.set i (Ap (0) 54) hil;have o5:Only c5 wr _:=only_set (w:=wr) (g:=c5) (i:=i) (v:=.int .u8 (Ap (0) 54));have g6n:=g6.only o5 (by omega);have c6c:=g6n.cell i hil;have f6c:=g6n.free i;have n6:=g6n.set i (Ap (0) 92) hil;have o6:Only c6 (wr.setCell ⟨c5,i,none⟩ (.int .u8 (Ap (0) 54))) _:=only_set (w:=wr.setCell ⟨c5,i,none⟩ (.int .u8 (Ap (0) 54))) (g:=c6) (i:=i) (v:=.int .u8 (Ap (0) 92));have HN5:=Hid.mk ((n5.only o6 (by omega)).congr (s':=Dc kk 54 (i+1)) (Dd kk 54 i (IE (by omega)).symm));have HN6:=Hid.mk (n6.congr (s':=Dc kk 92 (i+1)) (Dd kk 92 i (IE (by omega)).symm));have HN4:=Hid.mk ((g4.only o5 (by omega)).only o6 (by omega));have HNB:=Hid.mk ((hB.trans (o5.below (by omega))).trans (o6.below (by omega)));clear n5 n6 o5 o6 g5 g6 g4 hB g6n
     go_wp2_with (first|(refine Ae (by rfl) (Ew rfl (by rfl) (by rfl) HX.out (by omega)) ?_))
     go_roundg (64-(i+1))
     case rel=>exact⟨i+1,Hid.mk (by omega),by go_num,HN4.out,HN5.out,HN6.out,HNB.out⟩
     case measure=>have:=HI.out;omega
   ·have hi2:i=64:=by omega
    subst hi2;replace g5:=g5.congr (s':=BD kk 54) (fun j hj=>by unfold Dc;rw[if_pos hj]);replace g6:=g6.congr (s':=BD kk 92) (fun j hj=>by unfold Dc;rw[if_pos hj]);clear hil hi HI;go_wp2_with fail;refine AJ (fun v=>ArrAt v w.heap.size .u8 22 32 (fun _=>0)∧ArrAt v c5 .u8 5 64 (BD kk 54)∧ArrAt v c6 .u8 5 64 (BD kk 92)∧Below w.heap.size w v) ⟨g4,g5,g6,hB⟩ ?_;clear g4 g5 g6 hB;rintro v0 ⟨g4,g5,g6,hB⟩;refine Ai (Below w.heap.size w) v0.heap.size
     [(w.heap.size,once (WA .u8 32 (fun _=>0)) 22 9 (WA .u8 32 (BJ (mkS 64 (BD kk 92)++mkS 32 (BJ (mkS 64 (BD kk 54)++text)))))),(c5,AQ (WA .u8 64 (BD kk 54)) 5),(c6,AQ (WA .u8 64 (BD kk 92)) 5)]
     [kv (.slice (some ⟨c6,0,none⟩) 64 64),kv (.string (mkS 64 (BD kk 92))),kv (.slice (some ⟨c5,0,none⟩) 64 64),kv (.string (mkS 64 (BD kk 54))),kv (.string text),kv (.string (mkS 64 (BD kk 54)++text)),kv (.string (mkS 32 (BJ (mkS 64 (BD kk 54)++text)))),kv (.string (mkS 64 (BD kk 92)++mkS 32 (BJ (mkS 64 (BD kk 54)++text)))),kv (.agg (WA .u8 32 (BJ (mkS 64 (BD kk 92)++mkS 32 (BJ (mkS 64 (BD kk 54)++text)))))),.val fun _=>True]
     [.none,.none,.none,.none,.none,.none,.none,.none,.none,.base 0 1]
     [some 37,some 38,some 39,some 40,some 41,some 42,some 43,some 44,some 45,none]
     [(6,.slice (some ⟨c6,0,none⟩) 64 64),(5,.slice (some ⟨c5,0,none⟩) 64 64),(1,.string text),(4,.pointer (some ⟨w.heap.size,0,none⟩))]
     [[],[.slot 0,.base 2 0],[],[.slot 2,.base 1 0],[],[.slot 3,.slot 4],[.slot 5],[.slot 1,.slot 6],[.slot 7],[.slot 8,.base 0 0]]
     [.base 0 1,.base 1 0,.base 2 0] [37,38,39,40,41,42,43,44,45]
     rfl (by kernel_rfl) ⟨rfl,rfl,rfl,rfl,trivial⟩ (Below.drew hB) (Acg _) ⟨⟨g4.lt,Al g4⟩,⟨g5.lt,Al g5⟩,⟨g6.lt,Al g6⟩,trivial⟩ ⟨⟨(show (w.heap.size:Nat)≠c5 from by omega),(show (w.heap.size:Nat)≠c6 from by omega),trivial⟩,⟨trivial,trivial⟩,trivial,trivial⟩ (A8 hB.size ⟨by omega,by omega,by omega,trivial⟩)
     ⟨
      sL fun f _=>sV (Ab rfl f.1),
      (fun _ _ ww _ _ _ _ kn=>sV (AF rfl kn.1 (AD 64 c6 64 ww 64 _ (ArrAt.row (Ak kn.2.1)) (fun j _=>N6 HKK.out j) rfl))),
      sL fun f _=>sV (Ab rfl f.2.1),
      (fun _ _ ww _ _ _ _ kn=>sV (AF rfl kn.1 (AD 64 c5 64 ww 64 _ (ArrAt.row (Ak kn.2.1)) (fun j _=>N6 HK2.out j) rfl))),
      sL fun f _=>sV (Ab rfl f.2.2.1),
      sL fun _ k=>sV (Be rfl k.1 k.2.1 HL1.out),
      (fun _ _ ww _ _ _ _ kn=>.inl ⟨trivial,fun K hK=>AH J0 rfl (Gu rfl rfl kn.1) (HH1.out ww) (fun w' hb=>hK _ _ ⟨Ac hb,rfl⟩)⟩),
      sL fun _ k=>sV (Be rfl k.1 k.2.1 HL2.out),
      (fun _ _ ww _ _ _ _ kn=>.inl ⟨trivial,fun K hK=>AH Oy rfl (BI kn.1) (HH2.out ww) (fun w' hb=>hK _ _ ⟨Ac hb,rfl⟩)⟩),
      sL fun f k=>.inl ⟨trivial,fun K hK=>Bs rfl Af f.2.2.2.1 k.1 (Ak k.2.1) (fun w2 hg ho=>hK _ _ ⟨⟨Ag ho,Al hg⟩,trivial⟩)⟩,
      trivial⟩ ?_
    intro vs own v1 hB1 hs1 kn inj;clear inj g4 g5 g6 hB;have g4:ArrAt v1 w.heap.size .u8 22 32 (BJ (mkS 64 (BD kk 92)++mkS 32 (BJ (mkS 64 (BD kk 54)++text)))):=Ak kn.1;have g5:ArrAt v1 c5 .u8 5 64 (BD kk 54):=Ak kn.2.1;have g6:ArrAt v1 c6 .u8 5 64 (BD kk 92):=Ak kn.2.2.1;have hB:=hB1;clear kn hB1 hs1;simp only[Am,Act.put,Aci,Acj,Ach];go_wp2_with fail;exact bodyPost_ret (AE results96 Af g4 (by rfl)) rfl ⟨by rw[HRES.out],hB⟩
 ·have hlI:¬(64:Int)<(key.size:Int):=by omega
  have HKE:Hid (key=kk):=Hid.mk (by rw[←HKEY.out];unfold Er;rw[if_neg hl]);clear hl HKEY;obtain rfl:=HKE.out;clear HKE hk;go_enter func96,ntmps96
  go_wp2_with (refine Dq (n:=64) (by rfl) (by rfl) (by omega) ?_;intro v2 g5 hb2;refine Hid.out ?_)
  have hzb:=hB.size;replace g5:ArrAt v2 (w.heap.size+1) .u8 5 64 (fun _=>0):=by simpa using g5
  replace g4:=g4.kept hb2;replace hB:=hB.trans (hb2.mono hB.size);have hz4:w.heap.size<(w.heap.size+1):=by omega
  clear hb2;refine Hid.mk ?_
  go_wp2_with (refine Dq (n:=64) (by rfl) (by rfl) (by omega) ?_;intro v3 g6 hb3;refine Hid.out ?_)
  have hz5:=g5.lt;replace g4:=g4.kept hb3;replace g5:=g5.kept hb3;replace hB:=hB.trans (hb3.mono hB.size);clear hb3;refine Hid.mk ?_;obtain⟨c5,hc5⟩:∃c5,c5=(w.heap.size+1):=⟨_,rfl⟩;obtain⟨c6,hc6⟩:∃c6,c6=v2.heap.size:=⟨_,rfl⟩;rw[←hc5] at g5 hz5 ⊢;rw[←hc6] at g6 hz5 ⊢;have h56:c5<c6:=hz5;have h45:w.heap.size<c5:=by rw[hc5];exact hz4
  clear hz4 hz5 hc5 hc6;go_wp2_with fail
  go_loopg [7] 64 (fun gm iv v=>∃i:Nat,Hid (gm+i=64)∧iv=.int .i64 (i:Int)∧ArrAt v w.heap.size .u8 22 32 (fun _=>0)∧ArrAt v c5 .u8 5 64 (Dc key 54 i)∧ArrAt v c6 .u8 5 64 (Dc key 92 i)∧Below w.heap.size w v)
  case atStart=>exact⟨0,Hid.mk rfl,rfl,g4,g5.congr (fun j _=>by unfold Dc;rw[if_neg (by omega)]),g6.congr (fun j _=>by unfold Dc;rw[if_neg (by omega)]),hB⟩
  case round =>
   clear g4 g5 g6 hB;obtain⟨i,HI,rfl,g4,g5,g6,hB⟩:=hrel;have hi:i≤64:=by have:=HI.out;omega
   by_cases hil:i<64
   ·by_cases hik:i<key.size
    ·have HX:Hid (0≤txt key i∧txt key i<256):=Hid.mk (Bn key i)
     have c5c:=g5.cell i hil;have f5c:=g5.free i;have n5:=g5.set i (Ap (txt key i) 54) hil;have o5:Only c5 wr _:=only_set (w:=wr) (g:=c5) (i:=i) (v:=.int .u8 (Ap (txt key i) 54));have g6n:=g6.only o5 (by omega);have c6c:=g6n.cell i hil;have f6c:=g6n.free i;have n6:=g6n.set i (Ap (txt key i) 92) hil;have o6:Only c6 (wr.setCell ⟨c5,i,none⟩ (.int .u8 (Ap (txt key i) 54))) _:=only_set (w:=wr.setCell ⟨c5,i,none⟩ (.int .u8 (Ap (txt key i) 54))) (g:=c6) (i:=i) (v:=.int .u8 (Ap (txt key i) 92));have HN5:=Hid.mk ((n5.only o6 (by omega)).congr (s':=Dc key 54 (i+1)) (Dd key 54 i rfl));have HN6:=Hid.mk (n6.congr (s':=Dc key 92 (i+1)) (Dd key 92 i rfl));have HN4:=Hid.mk ((g4.only o5 (by omega)).only o6 (by omega));have HNB:=Hid.mk ((hB.trans (o5.below (by omega))).trans (o6.below (by omega)));clear n5 n6 o5 o6 g5 g6 g4 hB g6n
     go_wp2_with (first|(refine Ae (by rfl) (Ew rfl (by rfl) (by rfl) HX.out (by omega)) ?_)|(refine Ae (by rfl) (Gx (j:=i) rfl (by rfl) (by rfl) hik) ?_))
     go_roundg (64-(i+1))
     case rel=>exact⟨i+1,Hid.mk (by omega),by go_num,HN4.out,HN5.out,HN6.out,HNB.out⟩
     case measure=>have:=HI.out;omega
    ·have HX:Hid (0≤(0:Int)∧(0:Int)<256):=Hid.mk (by omega)
     have c5c:=g5.cell i hil;have f5c:=g5.free i;have n5:=g5.set i (Ap (0) 54) hil;have o5:Only c5 wr _:=only_set (w:=wr) (g:=c5) (i:=i) (v:=.int .u8 (Ap (0) 54));have g6n:=g6.only o5 (by omega);have c6c:=g6n.cell i hil;have f6c:=g6n.free i;have n6:=g6n.set i (Ap (0) 92) hil;have o6:Only c6 (wr.setCell ⟨c5,i,none⟩ (.int .u8 (Ap (0) 54))) _:=only_set (w:=wr.setCell ⟨c5,i,none⟩ (.int .u8 (Ap (0) 54))) (g:=c6) (i:=i) (v:=.int .u8 (Ap (0) 92));have HN5:=Hid.mk ((n5.only o6 (by omega)).congr (s':=Dc key 54 (i+1)) (Dd key 54 i (IE (by omega)).symm));have HN6:=Hid.mk (n6.congr (s':=Dc key 92 (i+1)) (Dd key 92 i (IE (by omega)).symm));have HN4:=Hid.mk ((g4.only o5 (by omega)).only o6 (by omega));have HNB:=Hid.mk ((hB.trans (o5.below (by omega))).trans (o6.below (by omega)));clear n5 n6 o5 o6 g5 g6 g4 hB g6n
     go_wp2_with (first|(refine Ae (by rfl) (Ew rfl (by rfl) (by rfl) HX.out (by omega)) ?_))
     go_roundg (64-(i+1))
     case rel=>exact⟨i+1,Hid.mk (by omega),by go_num,HN4.out,HN5.out,HN6.out,HNB.out⟩
     case measure=>have:=HI.out;omega
   ·have hi2:i=64:=by omega
    subst hi2;replace g5:=g5.congr (s':=BD key 54) (fun j hj=>by unfold Dc;rw[if_pos hj]);replace g6:=g6.congr (s':=BD key 92) (fun j hj=>by unfold Dc;rw[if_pos hj]);clear hil hi HI;go_wp2_with fail;refine AJ (fun v=>ArrAt v w.heap.size .u8 22 32 (fun _=>0)∧ArrAt v c5 .u8 5 64 (BD key 54)∧ArrAt v c6 .u8 5 64 (BD key 92)∧Below w.heap.size w v) ⟨g4,g5,g6,hB⟩ ?_;clear g4 g5 g6 hB;rintro v0 ⟨g4,g5,g6,hB⟩;refine Ai (Below w.heap.size w) v0.heap.size
     [(w.heap.size,once (WA .u8 32 (fun _=>0)) 22 9 (WA .u8 32 (BJ (mkS 64 (BD key 92)++mkS 32 (BJ (mkS 64 (BD key 54)++text)))))),(c5,AQ (WA .u8 64 (BD key 54)) 5),(c6,AQ (WA .u8 64 (BD key 92)) 5)]
     [kv (.slice (some ⟨c6,0,none⟩) 64 64),kv (.string (mkS 64 (BD key 92))),kv (.slice (some ⟨c5,0,none⟩) 64 64),kv (.string (mkS 64 (BD key 54))),kv (.string text),kv (.string (mkS 64 (BD key 54)++text)),kv (.string (mkS 32 (BJ (mkS 64 (BD key 54)++text)))),kv (.string (mkS 64 (BD key 92)++mkS 32 (BJ (mkS 64 (BD key 54)++text)))),kv (.agg (WA .u8 32 (BJ (mkS 64 (BD key 92)++mkS 32 (BJ (mkS 64 (BD key 54)++text)))))),.val fun _=>True]
     [.none,.none,.none,.none,.none,.none,.none,.none,.none,.base 0 1]
     [some 37,some 38,some 39,some 40,some 41,some 42,some 43,some 44,some 45,none]
     [(6,.slice (some ⟨c6,0,none⟩) 64 64),(5,.slice (some ⟨c5,0,none⟩) 64 64),(1,.string text),(4,.pointer (some ⟨w.heap.size,0,none⟩))]
     [[],[.slot 0,.base 2 0],[],[.slot 2,.base 1 0],[],[.slot 3,.slot 4],[.slot 5],[.slot 1,.slot 6],[.slot 7],[.slot 8,.base 0 0]]
     [.base 0 1,.base 1 0,.base 2 0] [37,38,39,40,41,42,43,44,45]
     rfl (by kernel_rfl) ⟨rfl,rfl,rfl,rfl,trivial⟩ (Below.drew hB) (Acg _) ⟨⟨g4.lt,Al g4⟩,⟨g5.lt,Al g5⟩,⟨g6.lt,Al g6⟩,trivial⟩ ⟨⟨(show (w.heap.size:Nat)≠c5 from by omega),(show (w.heap.size:Nat)≠c6 from by omega),trivial⟩,⟨trivial,trivial⟩,trivial,trivial⟩ (A8 hB.size ⟨by omega,by omega,by omega,trivial⟩)
     ⟨
      sL fun f _=>sV (Ab rfl f.1),
      (fun _ _ ww _ _ _ _ kn=>sV (AF rfl kn.1 (AD 64 c6 64 ww 64 _ (ArrAt.row (Ak kn.2.1)) (fun j _=>N6 HKK.out j) rfl))),
      sL fun f _=>sV (Ab rfl f.2.1),
      (fun _ _ ww _ _ _ _ kn=>sV (AF rfl kn.1 (AD 64 c5 64 ww 64 _ (ArrAt.row (Ak kn.2.1)) (fun j _=>N6 HK2.out j) rfl))),
      sL fun f _=>sV (Ab rfl f.2.2.1),
      sL fun _ k=>sV (Be rfl k.1 k.2.1 HL1.out),
      (fun _ _ ww _ _ _ _ kn=>.inl ⟨trivial,fun K hK=>AH J0 rfl (Gu rfl rfl kn.1) (HH1.out ww) (fun w' hb=>hK _ _ ⟨Ac hb,rfl⟩)⟩),
      sL fun _ k=>sV (Be rfl k.1 k.2.1 HL2.out),
      (fun _ _ ww _ _ _ _ kn=>.inl ⟨trivial,fun K hK=>AH Oy rfl (BI kn.1) (HH2.out ww) (fun w' hb=>hK _ _ ⟨Ac hb,rfl⟩)⟩),
      sL fun f k=>.inl ⟨trivial,fun K hK=>Bs rfl Af f.2.2.2.1 k.1 (Ak k.2.1) (fun w2 hg ho=>hK _ _ ⟨⟨Ag ho,Al hg⟩,trivial⟩)⟩,
      trivial⟩ ?_
    intro vs own v1 hB1 hs1 kn inj;clear inj g4 g5 g6 hB;have g4:ArrAt v1 w.heap.size .u8 22 32 (BJ (mkS 64 (BD key 92)++mkS 32 (BJ (mkS 64 (BD key 54)++text)))):=Ak kn.1;have g5:ArrAt v1 c5 .u8 5 64 (BD key 54):=Ak kn.2.1;have g6:ArrAt v1 c6 .u8 5 64 (BD key 92):=Ak kn.2.2.1;have hB:=hB1;clear kn hB1 hs1;simp only[Am,Act.put,Aci,Acj,Ach];go_wp2_with fail;exact bodyPost_ret (AE results96 Af g4 (by rfl)) rfl ⟨by rw[HRES.out],hB⟩
theorem Vu(args:Array Value)(w:World):(callFunc 96 args).run prog w=.ok (.enter 96 args) w:=by kernel_rfl
def Gn(z:Nat→Int):Nat→ByteArray
 | 0=>⟨#[]⟩
 | i+1=>mkS 32 (EM (mkS 32 z) (Gn z i++mkS 1 fun _=>((i+1:Nat):Int)%256))
def chK(z:Nat→Int)(i:Nat):Nat→Int:=EM (mkS 32 z) (Gn z i++mkS 1 fun _=>((i+1:Nat):Int)%256)
theorem J1(z:Nat→Int)(i:Nat):Gn z (i+1)=mkS 32 (chK z i):=rfl
theorem J2(z:Nat→Int)(i:Nat):(Gn z i).size≤32:=by
 cases i with
 | zero=>exact Nat.zero_le _
 | succ i=>rw[J1,Ar];omega
def EN(f:Nat→Nat→Int):Nat→List Value
 | 0=>[]
 | n+1=>EN f n++AC .u8 32 (f n)
theorem KO(key text:ByteArray)(j:Nat):0≤EM key text j∧EM key text j<256:=Ie _ j
theorem Yq:(Tryz.prog.info? 22).map (fun i=>(i.zero,i.size,i.bytes))=some (some (.agg (WA .u8 32 fun _=>0)),32,32):=by kernel_rfl
theorem Yr(s:Nat→Int)(w:World):(Instr.buildSlice 75 1 #[(0,.agg (WA .u8 32 s))]).run prog w=.ok (.slice (some ⟨w.heap.size,0,none⟩) 1 1) (w.alloc (.cells (WA .u8 32 s) 22)):=by kernel_rfl
theorem Vv{ops:Array Oper}{rest:List Oper}{d:Option Tmp}{x:Operand}{ty:TypeId}{ps:String}{af:Array Edge}{a:Act}{w:World}{Q:Exit→Act→World→Prop}{s:Nat→Int}(hx:a.eval x=.agg (WA .u8 32 s))(h:∀w',ArrAt w' w.heap.size .u8 22 32 s→Below w.heap.size w w'→wpList prog ops Q rest (a.put d (.slice (some ⟨w.heap.size,0,none⟩) 1 1)) w'):wpList prog ops Q ({ dst:=d,op:=.buildSlice 75 1 #[(0,x)],type:=ty,pos:=ps,after:=af,guard:=none }::rest) a w:=by
 have hr:=Yr s w;refine CZ rfl ?_;unfold Oper.wp execOp;simp only[Acs,Acu,Acq,hx,Sem.run_bind,hr,Result.andThen_ok,Sem.run_pure,Oper.upon];exact h _ (heap_alloc_new w _) ((Below.refl _ _).alloc (Acg _) _)
theorem R3{o:Oper}{a:Act}{w:World}{K:Act→World→Prop}{Q:Exit→Act→World→Prop}{x:Operand}(ho:o.op=.buildSlice 81 1 #[(0,x)]){n:Int}(hx:a.eval x=.int .u8 n)(h:∀v,v.heap[w.heap.size]?=some (.cells (WA .u8 1 fun _=>n) 5 (0,0))→Below w.heap.size w v→K (a.put o.dst (.slice (some ⟨w.heap.size,0,none⟩) 1 1)) v):o.wp prog a w K Q:=by
 have hr:=Rz n w;unfold Oper.wp execOp;simp only[ho,Acs,Acu,Acq,hx,Sem.run_bind,hr,Result.andThen_ok,Sem.run_pure,Oper.upon];exact h _ (heap_alloc_new w _) ((Below.refl _ _).alloc (Acg _) _)
theorem R4{ops:Array Oper}{rest:List Oper}{d:Option Tmp}{s x:Operand}{ty:TypeId}{ps:String}{af:Array Edge}{a:Act}{w:World}{Q:Exit→Act→World→Prop}{B k b:Nat}{xs:List Value}{v0:Value}{f:Nat→Int}(hs:a.eval s=v0)(hx:a.eval x=.slice (some ⟨b,0,none⟩) 1 1)(hD:w.ownsRow B 22 32 v0 k xs)(hg:ArrAt w b .u8 22 32 f)(hl:k<4000000)(hB:B≤w.heap.size)(h:∀v' w',w'.ownsRow B 22 32 v' (k+1) (xs++AC .u8 32 f)→Below B w w'→(∀q,q<w.heap.size→some q≠v0.ownBlock→w'.heap[q]?=w.heap[q]?)→wpList prog ops Q rest (a.put d v') w'):wpList prog ops Q ({ dst:=d,op:=.call { callee:=.builtin .append,args:=#[s,x],argTypes:=#[75,75] },type:=ty,pos:=ps,after:=af,guard:=none }::rest) a w:=by
 obtain⟨i0,hi,hz0,hz1,hz2⟩:=info_parts Yq;refine wpList_append_own w rfl s x 75 rfl B 22 i0 (.agg (WA .u8 32 fun _=>0)) 32 32 underlying75 hi hz0 hz1 hz2 (by show (WA .u8 32 fun _=>0).size=32;rw[A5]) (by decide) _ k _ hs hD ⟨b,0,none⟩ 1 1 (AC .u8 32 f) hx (by rw[A3]) ?_ EG ?_ ?_ hB ?_
 ·intro j u hj
  obtain⟨hj2,rfl⟩:=B6 hj;rw[Addr.add_lit,Acl];exact hg.cell j hj2
 ·unfold maxLen;omega
 ·omega
 ·intro v' w1 hown hgrow _
  exact h v' w1 hown (Below.grow hgrow hB (fun q hq=>(hD.lt q hq).1)) (fun q hq hne=>hgrow.block q hq hne)
theorem He{w w':World}{B:Nat}{e:TypeId}{v:Value}{n:Nat}{xs:List Value}(h:w.ownsRow B e 32 v n xs)(hb:Below w.heap.size w w'):w'.ownsRow B e 32 v n xs:=by
 obtain⟨h1,h2⟩:=h;refine⟨h1,?_⟩
 rcases h2 with h2 | ⟨g,cap,cur,rfl,hb1,hg,hr⟩
 ·exact .inl h2
 ·refine .inr ⟨g,cap,cur,rfl,hb1,?_,hr⟩
  rw[hb.block g (Aa hg)];exact hg
theorem PV(n:Nat)(key:Nat→Int)(input:ByteArray)(w:World)(hk:Byts 32 key)(h1:1≤n)(h8:n≤8)(hi:input.size≤140737488355328):Calls prog 53 #[.int .i64 (n:Int),.agg (WA .u8 32 key),.string input] w fun e w'=>∃v B,e=.returned (.tuple #[v,.int .i64 0])∧w.heap.size≤B∧w'.ownsRow B 22 32 v n (EN (chK (EM (mkS 32 key) input)) n)∧Below w.heap.size w w':=by
 have g0:ArrAt (w.alloc (.cells (WA .u8 32 key) 22)) w.heap.size .u8 22 32 key:=heap_alloc_new w _;have hB:Below w.heap.size w (w.alloc (.cells (WA .u8 32 key) 22)):=(Below.refl _ w).alloc (Acg _) _;have hcv:=AD 32 w.heap.size 32 _ 32 key g0.row (fun j hj=>hk j hj) rfl;have hM:=fun w=>Oz (mkS 32 key) input w (by rw[Ar];omega) (by omega)
 have HZB:Hid (∀j,j<32→0≤EM (mkS 32 key) input j∧EM (mkS 32 key) input j<256):=Hid.mk (fun j _=>KO _ _ j);generalize EM (mkS 32 key) input=zz at *;go_enter func53,ntmps53;go_wp2_with fail;refine(hM _).mono ?_;rintro e v1 ⟨rfl,hb⟩;replace hB:=hB.trans (hb.mono hB.size);clear hb hM hcv g0;have gn:=fun o (ho:o=Obj.cells (WA .u8 32 fun _=>0) 22 (0,0))=>(by rw[ho];exact heap_alloc_new v1 _:ArrAt (v1.alloc o) v1.heap.size .u8 22 32 (fun _=>0))
 have HBS:=Hid.mk hB.size
 go_wp2_with (refine A1 Af (gn _ rfl) (by rfl) (by rfl) ?_;intro v2 g8 o8;refine Hid.out ?_)
 replace hB:=(hB.alloc HBS.out _).trans (o8.below HBS.out);have hc8:w.heap.size≤v1.heap.size:=HBS.out;clear o8 gn HBS;generalize v1.heap.size=c8 at *;refine Hid.mk ?_;go_wp2_with fail
 go_loopg [9,10,11] n (fun gm ov lv iv v=>∃i p:Nat,Hid (gm+i=n)∧Hid (p=i+1)∧iv=.int .i64 (p:Int)∧lv=.string (Gn zz i)∧ArrAt v c8 .u8 22 32 zz∧v.ownsRow (c8+1) 22 32 ov i (EN (chK zz) i)∧Below w.heap.size w v)
 case atStart=>exact⟨0,1,Hid.mk rfl,Hid.mk rfl,rfl,rfl,g8,World.ownsRow_nil _ _ _ _,hB⟩
 case round =>
  clear g8 hB;obtain⟨i,p,HI,HP,rfl,rfl,g8,hO,hB⟩:=hrel;have hin:i≤n:=by have:=HI.out;omega
  by_cases hil:i<n
  ·have hp:p≤n:=by have:=HP.out;omega
   have hpI:(p:Int)≤(n:Int):=by omega
   have HL1:Hid ((Gn zz i).size+(mkS 1 fun _=>(p:Int)%256).size≤9223372036854775807):=Hid.mk (by have:=J2 zz i;rw[Ar];omega)
   have HMC:Hid (∀w,Calls prog 96 #[.string (mkS 32 zz),.string (Gn zz i++mkS 1 fun _=>(p:Int)%256)] w fun e w'=>e=.returned (.agg (WA .u8 32 (chK zz i)))∧Below w.heap.size w w'):=Hid.mk (fun w=>by
    have h:=Oz (mkS 32 zz) (Gn zz i++mkS 1 fun _=>(p:Int)%256) w (by rw[Ar];omega) (by have:=J2 zz i;rw[ByteArray.size_append,Ar];omega);rw[HP.out] at h ⊢;exact h)
   go_wp2_with fail;refine AJ (fun v=>ArrAt v c8 .u8 22 32 (zz)∧v.ownsRow (c8+1) 22 32 u9 i (EN (chK zz) i)∧Below w.heap.size w v) ⟨g8,hO,hB⟩ ?_;clear g8 hO hB;rintro v0 ⟨g8,hO,hB⟩;have HG8:Hid (∀u,Below v0.heap.size v0 u→ArrAt u c8 .u8 22 32 zz):=Hid.mk (fun u hu=>g8.kept hu);have HOB:Hid (∀q,v0.heap.size≤q→some q≠u9.ownBlock):=Hid.mk (fun q hq e=>by have:=(hO.lt q e.symm).2;omega);refine Ai (Below v0.heap.size v0) v0.heap.size
    ([]:List (Nat×Cont))
    [kv (.slice (some ⟨c8,0,none⟩) 32 32),kv (.string (mkS 32 zz)),kv (.string (Gn zz i)),kv (.int .i64 (p:Int)),kv (.int .u8 ((p:Int)%256)),ks 1 (WA .u8 1 fun _=>(p:Int)%256) 5,kv (.string (mkS 1 fun _=>(p:Int)%256)),kv (.string (Gn zz i++mkS 1 fun _=>(p:Int)%256)),kv (.agg (WA .u8 32 (chK zz i))),kp (WA .u8 32 fun _=>0) 22 10 (WA .u8 32 (chK zz i)),.val fun _=>True]
    [.none,.none,.none,.none,.none,.none,.none,.none,.none,.none,.own 9 1]
    [some 28,some 29,some 30,some 31,some 32,some 33,some 34,some 35,some 36,some 12,none]
    [(8,.pointer (some ⟨c8,0,none⟩)),(10,.string (Gn zz i)),(11,.int .i64 (p:Int))]
    [[],[.slot 0],[],[],[.slot 3],[.slot 4],[.slot 5,.cont 5 0],[.slot 2,.slot 6],[.slot 1,.slot 7],[],[.slot 9,.cont 9 0,.slot 8]]
    [.slot 9,.cont 9 1] [28,29,30,31,32,33,34,35,36,12]
    rfl (by kernel_rfl) ⟨rfl,rfl,rfl,trivial⟩ (Below.refl _ v0).drew (Acg _) trivial trivial (A8 (Acg _) trivial)
    ⟨
     (fun _ _ ww _ _ _ fr _=>sV (Ci (v:=.pointer (some ⟨c8,0,none⟩)) rfl fr.1 (M2 c8 ww))),
     (fun _ _ ww _ hS _ _ kn=>sV (AF rfl kn.1 (AD 32 c8 32 ww 32 _ (ArrAt.row (HG8.out ww hS)) HZB.out rfl))),
     sL fun f _=>sV (Ab rfl f.2.1),
     sL fun f _=>sV (Ab rfl f.2.2.1),
     sL fun _ k=>sV (AF rfl k.1 (Ky _ _)),
     sL fun _ k=>.inl ⟨trivial,fun K hK=>R3 rfl k.1 (fun v hg hb=>hK _ _ ⟨Ac hb,_,Acg _,rfl,Al hg⟩)⟩,
     (fun _ _ ww _ _ _ _ kn=>sV (AF rfl kn.1.1 (AD 1 _ 1 ww 1 _ (ArrAt.row (Ak kn.2.1)) (fun j _=>by omega) rfl))),
     sL fun _ k=>sV (Be rfl k.1 k.2.1 HL1.out),
     (fun _ _ ww _ _ _ _ kn=>.inl ⟨trivial,fun K hK=>AH Vu rfl (CT kn.1 kn.2.1) (HMC.out ww) (fun w' hb=>hK _ _ ⟨Ac hb,rfl⟩)⟩),
     sL fun _ _=>.inl ⟨trivial,fun K hK=>Bi Ju rfl (fun w' hb hg=>hK _ _ ⟨Ac hb,_,Acg _,rfl,Al hg⟩)⟩,
     sL fun _ k=>.inl ⟨trivial,fun K hK=>Bs rfl Af k.1.1 k.2.2.1 (Ak k.2.1) (fun w2 hg ho=>hK _ _ ⟨Ag ho,Al hg,trivial⟩)⟩,
     trivial⟩ ?_
   intro vs own v5 hB5 hs5 kn inj;clear inj hs5;replace g8:=g8.kept hB5;replace hO:=He hO hB5;replace hB:=hB.trans (hB5.mono hB.size);obtain⟨e12,hb12,_⟩:=kn.1;change vs 12=_ at e12;have gC:ArrAt v5 (own 9) .u8 22 32 (chK zz i):=Ak kn.2.1;clear kn hB5;simp only[Am,Act.put,Aci,Acj,Ach,e12];generalize own 9=c12 at *
   go_wp2_with (first|(refine Aq Af gC (by rfl) ?_)|(refine Vv (by rfl) ?_;intro v6 g6 hb6;refine Hid.out ?_))
   replace g8:=g8.kept hb6;replace gC:=gC.kept hb6;replace hO:=He hO hb6;replace hB:=hB.trans (hb6.mono hB.size);have HBS:=Hid.mk hB.size;clear hb6;refine Hid.mk ?_;have hz8:=g8.lt
   go_wp2_with (refine R4 (by rfl) (by rfl) hO g6 (by omega) (by have:=g8.lt;omega) ?_;intro vb v7 hO7 hb7 hk7;refine Hid.out ?_)
   have gC7:ArrAt v7 c12 .u8 22 32 (chK zz i):=gC.block (hk7 c12 gC.lt (HOB.out c12 hb12));have g87:=g8.below hb7 (by omega);have hB7:=hB.trans (hb7.mono (by omega));have hcv:=AD 32 c12 32 v7 32 (chK zz i) gC7.row (fun j _=>KO _ _ j) rfl;have HLN:Hid (mkS 32 (chK zz i)=Gn zz (i+1)):=Hid.mk (J1 zz i).symm;clear hO hb7 hk7 gC g8 hB HG8 HOB g6 HL1 HMC;refine Hid.mk ?_
   go_wp2_with (refine Ae (by rfl) (BV (m:=p) (n:=1) rfl (by rfl) (by rfl) rfl (by omega)) ?_)
   rw[HLN.out]
   go_roundg (n-(i+1))
   case rel=>exact⟨i+1,p+1,Hid.mk (by omega),Hid.mk (by have:=HP.out;omega),by go_num,rfl,g87,hO7,hB7⟩
   case measure=>have:=HI.out;omega
  ·have hi2:i=n:=by omega
   subst hi2;have hpI:¬(p:Int)≤(i:Int):=by have:=HP.out;omega
   go_wp2_with fail;exact bodyPost_ret (v:=.tuple #[u9,.int .i64 0]) (Cq results53 (by rfl) (by rfl)) rfl ⟨u9,rfl,c8+1,by omega,hO,hB⟩
theorem AaU(w:World):(sizeOf (Tryz.prog.elem 75)).run prog w=.ok 32 w:=by kernel_rfl
theorem De{a:Act}{o:Oper}{w:World}{x y:Operand}(ho:o.op=.indexAddr 75 x y){b n c i:Nat}(hx:a.eval x=.slice (some ⟨b,0,none⟩) n c)(hy:a.eval y=.int .i64 (i:Int))(hi:i<n):(execOp a.eval o).run prog w=.ok (.value (.pointer (some ⟨b,i*32,none⟩))) w:=by
 unfold execOp;simp only[ho,hx,hy,Sem.run_bind];rw[run_indexAt_slice w 75 _ n c .i64 (i:Int) underlying75,if_pos ⟨by omega,by omega⟩,AaU];simp[Addr.add_lit]
structure RowsAt (w:World) (g n i:Nat) (f:Nat→Nat→Int):Prop where
 ex:∃cur,w.heap[g]?=some (.cells cur 22 (0,0))∧n*32≤cur.size∧∀j,i≤j→j<n→∀q,q<32→cur[j*32+q]?=some (.int .u8 (f j q))
theorem RowsAt.block{w w':World}{g n i:Nat}{f:Nat→Nat→Int}(h:RowsAt w g n i f)(e:w'.heap[g]?=w.heap[g]?):RowsAt w' g n i f:=by
 obtain⟨cur,h1,h2,h3⟩:=h.ex;exact⟨cur,e.trans h1,h2,h3⟩
theorem RowsAt.lt{w:World}{g n i:Nat}{f:Nat→Nat→Int}(h:RowsAt w g n i f):g<w.heap.size:=by
 obtain⟨cur,h1,h2,h3⟩:=h.ex;exact Aa h1
theorem RowsAt.only{w w':World}{g b n i:Nat}{f:Nat→Nat→Int}(h:RowsAt w g n i f)(ho:Only b w w')(hg:g≠b):RowsAt w' g n i f:=h.block (ho.block g hg)
theorem RowsAt.range{w:World}{g n i j:Nat}{f:Nat→Nat→Int}(h:RowsAt w g n i f)(hi:i≤j)(hj:j<n):w.rangeAt g (j*32) (AC .u8 32 (f j)):=by
 obtain⟨cur,h1,h2,h3⟩:=h.ex;intro q v hq;obtain⟨hq2,rfl⟩:=B6 hq;rw[cell_of_row w g _ _ _ _ h1,h3 j hi hj q hq2]
theorem O3(f:Nat→Nat→Int):∀n j,j<n→∀q,q<32→(EN f n)[j*32+q]?=some (.int .u8 (f j q))
 | 0,j,h,_,_=>by omega
 | n+1,j,h,q,hq=>by
  have hl:(EN f n).length=n*32:=by
   have:∀m,(EN f m).length=m*32:=fun m=>by
    induction m with
    | zero=>rfl
    | succ m ih=>rw[EN,List.length_append,A3,ih];omega
   exact this n
  rw[EN]
  by_cases e:j=n
  ·subst e
   rw[List.getElem?_append_right (by omega),hl,Ac0,BC .u8 32 _ hq]
  ·rw[List.getElem?_append_left (by omega)]
   exact O3 f n j (by omega) q hq
theorem O4{w:World}{B n:Nat}{v:Value}{f:Nat→Nat→Int}(h:w.ownsRow B 22 32 v n (EN f n))(hn:0<n):∃g cap,v=.slice (some ⟨g,0,none⟩) n cap∧B≤g∧RowsAt w g n 0 f:=by
 rcases h.2 with ⟨_,h0⟩ | ⟨g,cap,cur,rfl,hb,hg,hc,_,hs,ht⟩
 ·omega
 ·refine⟨g,cap,rfl,hb,cur,hg,by rw[hs];exact Nat.mul_le_mul_right _ hc,fun j _ hj q hq=>?_⟩
  have h1:=O3 f n j hj q hq;rw[←ht,AcM,if_pos (by omega)] at h1
  simpa using h1
end Go.Proofs.YthghcjepdhkfdaaGreatDoor
