/-
  Own text. Package noise: the shared key, the keys of a keypair.
-/
import Derived.Test.YthghcjepdhkfdaaGreatDoorJA11
import Derived.Test.YthghcjepdhkfdaaGreatDoorJA5
import Derived.Test.YthghcjepdhkfdaaGreatDoorJA10
import Derived.Test.YthghcjepdhkfdaaGreatDoorJA1
import Derived.Test.YthghcjepdhkfdaaGreatDoorJA3
set_option maxHeartbeats 16000000
set_option maxRecDepth 100000
open Bool renaming and_eq_true→AcB
open Int renaming mul_le_mul_of_nonneg_right→Adq,pow_succ→AcF,tdiv_eq_ediv_of_nonneg→AcW,tmod_eq_emod_of_nonneg→AcM
open List renaming map_cons→AcG,map_nil→AcD,map_toArray→AcH,setIfInBounds_toArray→Ac6,set_cons_succ→Ac5,set_cons_zero→Ac7
open Nat renaming add_zero→AcU,le_refl→Ac4,le_trans→AcE,lt_of_lt_of_le→Adb,zero_add→Ac9
namespace Go.Proofs.YthghcjepdhkfdaaGreatDoor
open Go.RowKit Go.Proofs
open Tryz
theorem GL{v0:World}{T:Nat→Prop}{G:List (Nat×Cont)}(hG:∀k∈G.map (·.1),T k)(w w':World)(h:Touch T v0 w)(ht:Touch (fun k=>v0.heap.size≤k∨k∈G.map (·.1)) w w'):Touch T v0 w':=
 ⟨ht.os.trans h.os,ht.tape.trans h.tape,ht.output.trans h.output,AcE h.size ht.size,fun k hk hn=>(ht.block k (by have:=h.size;omega) (fun e=>e.elim (fun e=>by omega) (fun e=>hn (hG k e)))).trans (h.block k hk hn)⟩
theorem Abb{fn:Func}{p q:Tmp}{ty ty':TypeId}(h:fn.results=#[.cell p ty,.cell q ty']){tmps:Array Value}{w:World}{g g' n n':Nat}{k k':IntKind}{s s':Nat→Int}(hA:CV ty n)(hA':CV ty' n')(hg:ArrAt w g k ty n s)(hg':ArrAt w g' k' ty' n' s')(hp:tmps.getD p undef=.pointer (some ⟨g,0,none⟩))(hq:tmps.getD q undef=.pointer (some ⟨g',0,none⟩)):(results fn tmps).run prog w=.ok (.tuple #[.agg (WA k n s),.agg (WA k' n' s')]) w:=by
 obtain⟨m,e,h1,h3⟩:=hA;obtain⟨m',e',h1',h3'⟩:=hA';exact EN h tmps w g g' hp hq _ _ hg hg' (by rw[A5];exact h3) (by rw[A5];exact h3') h1 rfl h1' rfl
theorem XQ{fn:Func}{p q:Tmp}{ty:TypeId}(h:fn.results=#[.tmp p,.cell q ty]){tmps:Array Value}{w:World}{g n:Nat}{V:Nat→Value}{x:Value}(hA:Ko ty n)(hg:SAt w g ty n V)(hp:tmps.getD p undef=x)(hq:tmps.getD q undef=.pointer (some ⟨g,0,none⟩)):(results fn tmps).run prog w=.ok (.tuple #[x,.agg (SC n V)]) w:=by
 obtain⟨d,h1,h2,h3⟩:=hA;have hp':tmps[p]?.getD undef=x:=by simpa using hp
 have hq':tmps[q]?.getD undef=.pointer (some ⟨g,0,none⟩):=by simpa using hq
 have:=run_loadVar_row (P:=prog) w g ty ty (SC n V) (0,0) _ hg h1 (by cases d<;>first | rfl | exact h2) (by rw[CH];exact h3);simp[results,h,hp',hq',asAddr,this]
theorem Gi{fn:Func}{p q:Tmp}{ty:TypeId}(h:fn.results=#[.cell q ty,.tmp p]){tmps:Array Value}{w:World}{g n:Nat}{V:Nat→Value}{x:Value}(hA:Ko ty n)(hg:SAt w g ty n V)(hp:tmps.getD p undef=x)(hq:tmps.getD q undef=.pointer (some ⟨g,0,none⟩)):(results fn tmps).run prog w=.ok (.tuple #[.agg (SC n V),x]) w:=by
 obtain⟨d,h1,h2,h3⟩:=hA;have hp':tmps[p]?.getD undef=x:=by simpa using hp
 have hq':tmps[q]?.getD undef=.pointer (some ⟨g,0,none⟩):=by simpa using hq
 have:=run_loadVar_row (P:=prog) w g ty ty (SC n V) (0,0) _ hg h1 (by cases d<;>first | rfl | exact h2) (by rw[CH];exact h3);simp[results,h,hp',hq',asAddr,this]
theorem Kg(b:Nat)(H C K S:Nat→Int)(w:World)(hE:Env w)(hb3:3≤b)(g:KtAt w b H C K)(hH:Byts 32 H)(hC:Byts 32 C)(hS:Byts 32 S):Calls prog 93 #[.pointer (some ⟨b,0,none⟩),.agg (WA .u8 32 S)] w fun e w'=>e=.returned (.tuple #[])∧KtAt w' b (Dk H (mkS 32 (chn C (mkS 32 S) 1))) (chn C (mkS 32 S) 0) (chn C (mkS 32 S) 2)∧Touch (fun x=>x=b) w w':=by
 have hbl:=g.lt;have hB:Below w.heap.size w (w.alloc (.cells (WA .u8 32 S) 22)):=(Below.refl _ w).alloc (Ac4 _) _;have g0:ArrAt (w.alloc (.cells (WA .u8 32 S) 22)) w.heap.size .u8 22 32 S:=heap_alloc_new w _;have hcv:=AB 32 w.heap.size 32 _ 32 S g0.row hS rfl;have HE:=Hid.mk (hE.kept hB);have HG:=Hid.mk (g.kept hB);have ht:=CZ b hB;clear hE g hB g0;go_enter func93,ntmps93;go_wp2_with fail;refine(Jd b 3 H C K (mkS 32 S) _ HE.out HG.out hC (by rw[At];omega) (by omega) (by omega)).mono ?_;rintro e v0 ⟨gl,cl,rfl,hgl,rL,hb1⟩;have g:=HG.out.kept hb1;have hE:=HE.out.kept hb1;have hglb:b<gl:=Adb HG.out.lt hgl;replace ht:=ht.trans (CZ b hb1);clear hb1 HE HG hcv hgl;have hLb:=fun i=>Ex C (mkS 32 S) i 32
 obtain⟨L,hL⟩:∃L,chn C (mkS 32 S)=L:=⟨_,rfl⟩;rw[hL] at rL hLb;have HRL:Hid (∀u,Touch (fun x=>x=b) v0 u→RowsAt u gl 3 0 L):=Hid.mk (fun u hu=>rL.touch hu (by omega));go_wp2_with fail;refine Ai (Touch (fun x=>x=b) v0) v0.heap.size
   [(b,Aaf (WA .u8 96 (ktF H C K)) 121 10 (WA .u8 96 (ktF H (L 0) K)) 13 (WA .u8 96 (ktF H (L 0) (L 2))))]
   [kv (.pointer (some ⟨b,0,none⟩)),kv (.pointer (some ⟨b,0,none⟩)),kv (.slice (some ⟨gl,0,none⟩) 3 cl),kv (.pointer (some ⟨gl,0*32,none⟩)),kv (.agg (WA .u8 32 (L 0))),kv (.slice (some ⟨gl,0,none⟩) 3 cl),kv (.pointer (some ⟨gl,2*32,none⟩)),kv (.agg (WA .u8 32 (L 2))),kv (.pointer (some ⟨b,0,none⟩)),kv (.pointer (some ⟨b,32,none⟩)),.val fun _=>True,kv (.pointer (some ⟨b,0,none⟩)),kv (.pointer (some ⟨b,64,none⟩)),.val fun _=>True]
   [.none,.none,.none,.none,.none,.none,.none,.none,.none,.none,.base 0 1,.none,.none,.base 0 2]
   [some 9,some 10,some 11,some 12,some 13,some 14,some 15,some 16,some 17,some 18,none,some 19,some 20,none]
   [(0,.pointer (some ⟨b,0,none⟩)),(4,.slice (some ⟨gl,0,none⟩) 3 cl)]
   [[],[],[],[.slot 2],[.slot 3],[],[.slot 5],[.slot 6],[.slot 0],[.slot 8],[.slot 9,.slot 4,.base 0 0],[.slot 1],[.slot 11],[.slot 12,.slot 7,.base 0 1]]
   [.base 0 2] [9,10,11,12,13,14,15,16,17,18,19,20]
   rfl (by kernel_rfl) ⟨rfl,rfl,trivial⟩ (CZ b (Below.refl _ v0).drew) (Ac4 _) ⟨⟨g.lt,Ao g⟩,trivial⟩ ⟨trivial,trivial⟩ Fq
   ⟨
    sL fun f _=>sV (Ab rfl f.1),
    sL fun f _=>sV (Ab rfl f.1),
    sL fun f _=>sV (Ab rfl f.2.1),
    sL fun _ k=>sV (Bx (i:=0) rfl k.1 rfl (by omega)),
    (fun _ _ ww _ hS _ _ kn=>sV (Al rfl Af kn.1 ((HRL.out ww hS).range (Ac4 0) (by omega)))),
    sL fun f _=>sV (Ab rfl f.2.1),
    sL fun _ k=>sV (Bx (i:=2) rfl k.1 rfl (by omega)),
    (fun _ _ ww _ hS _ _ kn=>sV (Al rfl Af kn.1 ((HRL.out ww hS).range (Nat.zero_le 2) (by omega)))),
    sL fun _ k=>sV (AZ rfl k.1),
    sL fun _ kn=>sV (Dz (k:=1) rfl kn.1 (by decide)),
    sL fun _ k=>.inl ⟨trivial,fun K hK=>Sf rfl (Ak k.2.2.1) k.1 k.2.1 (fun w2 hg ho=>hK _ _ ⟨⟨Ag ho,Ao hg⟩,trivial⟩)⟩,
    sL fun _ k=>sV (AZ rfl k.1),
    sL fun _ kn=>sV (Dz (k:=2) rfl kn.1 (by decide)),
    sL fun _ k=>.inl ⟨trivial,fun K hK=>Sg rfl (Ak k.2.2.1) k.1 k.2.1 (fun w2 hg ho=>hK _ _ ⟨⟨Ag ho,Ao hg⟩,trivial⟩)⟩,
    trivial⟩ ?_
 intro vs own v1 hT1 hsz kn inj;clear inj hsz;have g1:KtAt v1 b H (L 0) (L 2):=Ak kn.1;clear kn g;have rL1:=HRL.out v1 hT1;have hcv:=DV gl (1*32) 32 v1 (L 1) (hLb 1) (rL1.range (Nat.zero_le 1) (by omega)) (cp:=32);replace hE:=hE.touch hT1 hb3;replace ht:=ht.trans hT1;clear HRL rL rL1 hT1;simp only[Ap,Act.put,Ac6,Ac7,Ac5];have hes:(mkS 32 (L 1)).size≤562949953421312:=by rw[At];omega
 obtain⟨et,het⟩:∃et,mkS 32 (L 1)=et:=⟨_,rfl⟩;rw[het] at hes hcv
 go_wp2_with (first|(refine Ae rfl (Bx (i:=1) rfl (by rfl) (by rfl) (by omega)) ?_)|(refine Ae rfl (Cb rfl (by rfl) (Nb gl (1*32) _)) ?_)|(refine Ae rfl (AE rfl (by rfl) hcv) ?_)|(refine FM (s:=et) (by rfl) ?_;intro v5 hS5 hb5 hz5;refine Hid.out ?_))
 have hst:=g1.lt;replace g1:=g1.kept hb5;replace hE:=hE.kept hb5;replace ht:=ht.trans (CZ b hb5);clear hz5 hb5 hcv;refine Hid.mk ?_;go_wp2_with fail;refine(FB b H (L 0) (L 2) _ 1 (Fy et) _ hE hb3 g1 hH (fun u hu=>hS5.touch (fun p n c hp=>by cases hp;exact Nat.ne_of_gt hst) hu) (by omega) (fun i _=>hes)).mono ?_;rintro x v6 ⟨rfl,g6,t6⟩;go_wp2_with fail;refine bodyPost_end (results_none rfl _ _ _) rfl ⟨rfl,?_,ht.trans t6⟩;rw[hL,het];exact g6
theorem P9(b:Nat)(H C K:Nat→Int)(w:World)(hE:Env w)(g:KtAt w b H C K)(hC:Byts 32 C):Calls prog 94 #[.pointer (some ⟨b,0,none⟩)] w fun e w'=>e=.returned (.tuple #[.agg (WA .u8 32 (chn C ⟨#[]⟩ 0)),.agg (WA .u8 32 (chn C ⟨#[]⟩ 1))])∧Below w.heap.size w w':=by
 have hB:Below w.heap.size w ((w.alloc (.cells (WA .u8 32 (fun _=>0)) 22)).alloc (.cells (WA .u8 32 (fun _=>0)) 22)):=((Below.refl _ w).alloc (by simp) _).alloc (by simp) _;have g0:ArrAt ((w.alloc (.cells (WA .u8 32 (fun _=>0)) 22)).alloc (.cells (WA .u8 32 (fun _=>0)) 22)) w.heap.size .u8 22 32 (fun _=>0):=heap_alloc2_old w _ _;have g1:ArrAt ((w.alloc (.cells (WA .u8 32 (fun _=>0)) 22)).alloc (.cells (WA .u8 32 (fun _=>0)) 22)) (w.heap.size+1) .u8 22 32 (fun _=>0):=heap_alloc2_new w _ _;have hs2:(((w.alloc (.cells (WA .u8 32 (fun _=>0)) 22)).alloc (.cells (WA .u8 32 (fun _=>0)) 22))).heap.size=w.heap.size+1+1:=by simp
 have HE:=Hid.mk (hE.kept hB);have HG:=Hid.mk (g.kept hB);have hK:=fun u hu gu=>Jd b 2 H C K ⟨#[]⟩ u hu gu hC (of_decide_eq_true rfl) (by omega) (by omega)
 obtain⟨L,hL⟩:∃L,chn C ⟨#[]⟩=L:=⟨_,rfl⟩;rw[hL] at hK;clear hE g;go_enter func94,ntmps94;go_wp2_with fail;refine(hK _ HE.out HG.out).mono ?_;rintro e v0 ⟨gl,cl,rfl,hgl,rL,hb1⟩;have hgl2:w.heap.size+1+1≤gl:=by rw[←hs2];exact hgl
 replace g0:=g0.kept hb1;replace g1:=g1.kept hb1;replace hB:=hB.trans (hb1.mono hB.size);clear hb1 HE HG hK hgl hs2;have HRL:Hid (∀u,Touch (fun x=>x=w.heap.size∨x=(w.heap.size+1)) v0 u→RowsAt u gl 2 0 L):=Hid.mk (fun u hu=>rL.block (hu.block gl rL.lt (by omega)));go_wp2_with fail;refine Ai (Touch (fun x=>x=w.heap.size∨x=(w.heap.size+1)) v0) v0.heap.size
   [(w.heap.size,once (WA .u8 32 (fun _=>0)) 22 6 (WA .u8 32 (L 0))),((w.heap.size+1),once (WA .u8 32 (fun _=>0)) 22 7 (WA .u8 32 (L 1)))]
   [kv (.slice (some ⟨gl,0,none⟩) 2 cl),kv (.pointer (some ⟨gl,0*32,none⟩)),kv (.agg (WA .u8 32 (L 0))),kv (.slice (some ⟨gl,0,none⟩) 2 cl),kv (.pointer (some ⟨gl,1*32,none⟩)),kv (.agg (WA .u8 32 (L 1))),.val fun _=>True,.val fun _=>True]
   [.none,.none,.none,.none,.none,.none,.base 0 1,.base 1 1]
   [some 7,some 8,some 9,some 10,some 11,some 12,none,none]
   [(4,.slice (some ⟨gl,0,none⟩) 2 cl),(2,.pointer (some ⟨w.heap.size,0,none⟩)),(3,.pointer (some ⟨(w.heap.size+1),0,none⟩))]
   [[],[.slot 0],[.slot 1],[],[.slot 3],[.slot 4],[.slot 2,.base 0 0],[.slot 5,.base 1 0]]
   [.base 0 1,.base 1 1] [7,8,9,10,11,12]
   rfl (by kernel_rfl) ⟨rfl,rfl,rfl,trivial⟩ (Dl (Below.refl _ v0).drew) (Ac4 _) ⟨⟨g0.lt,Ao g0⟩,⟨g1.lt,Ao g1⟩,trivial⟩ ⟨⟨(show (w.heap.size:Nat)≠(w.heap.size+1) from by omega),trivial⟩,trivial,trivial⟩ (GL (fun k hk=>by simpa using hk))
   ⟨
    sL fun f _=>sV (Ab rfl f.1),
    sL fun _ k=>sV (Bx (i:=0) rfl k.1 rfl (by omega)),
    (fun _ _ ww _ hS _ _ kn=>sV (Al rfl Af kn.1 ((HRL.out ww hS).range (Ac4 0) (by omega)))),
    sL fun f _=>sV (Ab rfl f.1),
    sL fun _ k=>sV (Bx (i:=1) rfl k.1 rfl (by omega)),
    (fun _ _ ww _ hS _ _ kn=>sV (Al rfl Af kn.1 ((HRL.out ww hS).range (Nat.zero_le 1) (by omega)))),
    sL fun f k=>.inl ⟨trivial,fun K hK=>BQ rfl Af f.2.1 k.1 (Ak k.2.1) (fun w2 hg ho=>hK _ _ ⟨⟨Ag ho,Ao hg⟩,trivial⟩)⟩,
    sL fun f k=>.inl ⟨trivial,fun K hK=>BQ rfl Af f.2.2.1 k.1 (Ak k.2.1) (fun w2 hg ho=>hK _ _ ⟨⟨Ag ho,Ao hg⟩,trivial⟩)⟩,
    trivial⟩ ?_
 intro vs own v1 hT1 hsz kn inj;clear inj hsz g0 g1;have g0:ArrAt v1 w.heap.size .u8 22 32 (L 0):=Ak kn.1;have g1:ArrAt v1 (w.heap.size+1) .u8 22 32 (L 1):=Ak kn.2.1;clear kn HRL rL;have hBf:Below w.heap.size w v1:=⟨hT1.os.trans hB.os,hT1.tape.trans hB.tape,hT1.output.trans hB.output,AcE hB.size hT1.size,fun k hk=>(hT1.block k (by have:=hB.size;omega) (by omega)).trans (hB.block k hk)⟩;clear hT1 hB;simp only[Ap,Act.put,Ac6,Ac7,Ac5];go_wp2_with fail;refine bodyPost_ret (v:=.tuple #[.agg (WA .u8 32 (L 0)),.agg (WA .u8 32 (L 1))]) (Abb results94 Af Af g0 g1 (by rfl) (by rfl)) rfl ⟨?_,hBf⟩;rw[hL]
theorem LY{T:Nat→Prop}{u v w:World}(h:Touch T u v)(k:Touch T v w):Touch T u w:=⟨k.os.trans h.os,k.tape.trans h.tape,k.output.trans h.output,AcE h.size k.size,fun q hq hn=>(k.block q (by have:=h.size;omega) hn).trans (h.block q hq hn)⟩
theorem As(w:World)(o:Obj)(n:Nat)(h:w.heap.size=n):(w.alloc o).heap[n]?=some o:=by
 subst h;exact heap_alloc_new w o
theorem Ac{w:World}(o:Obj){k:Nat}{x:Obj}(h:w.heap[k]?=some x):(w.alloc o).heap[k]?=some x:=(Below.heap_alloc _ _ _ (Aa h)).trans h
def CAt(w:World)(b:Nat)(ty:TypeId)(v:Value):Prop:=w.heap[b]?=some (.cells #[v] ty (0,0))
section
variable {w w':World} {b:Nat} {ty:TypeId} {v:Value}
theorem CAt.lt(h:CAt w b ty v):b<w.heap.size:=Aa h
theorem CAt.block(h:CAt w b ty v)(e:w'.heap[b]?=w.heap[b]?):CAt w' b ty v:=e.trans h
theorem CAt.kept(h:CAt w b ty v)(hb:Below w.heap.size w w'):CAt w' b ty v:=h.block (hb.block b h.lt)
theorem CAt.only{g:Nat}(h:CAt w b ty v)(o:Only g w w')(hg:b≠g):CAt w' b ty v:=h.block (o.block b hg)
theorem CAt.at(h:CAt w b ty v):w.cell? ⟨b,0,none⟩=some v:=cell_of_row w b 0 _ _ _ h
theorem CAt.free(h:CAt w b ty v):w.frozen? ⟨b,0,none⟩=false:=frozen_of_row w b 0 _ _ h
theorem CAt.set(h:CAt w b ty v)(x:Value):CAt (w.setCell ⟨b,0,none⟩ x) b ty x:=by
 have h2:=heap_setCell_same w b 0 _ ty x h;unfold CAt
 simpa using h2
end
theorem ZB{fn:Func}{p q r:Tmp}{ty ty':TypeId}(h:fn.results=#[.cell p ty,.cell q ty',.tmp r]){tmps:Array Value}{w:World}{g g' n n':Nat}{k':IntKind}{V:Nat→Value}{s':Nat→Int}{x:Value}(hA:Ko ty n)(hA':CV ty' n')(hg:SAt w g ty n V)(hg':ArrAt w g' k' ty' n' s')(hp:tmps.getD p undef=.pointer (some ⟨g,0,none⟩))(hq:tmps.getD q undef=.pointer (some ⟨g',0,none⟩))(hr:tmps.getD r undef=x):(results fn tmps).run prog w=.ok (.tuple #[.agg (SC n V),.agg (WA k' n' s'),x]) w:=by
 obtain⟨d,h1,h2,h3⟩:=hA;obtain⟨m',e',h1',h3'⟩:=hA';have hp':tmps[p]?.getD undef=.pointer (some ⟨g,0,none⟩):=by simpa using hp
 have hq':tmps[q]?.getD undef=.pointer (some ⟨g',0,none⟩):=by simpa using hq
 have hr':tmps[r]?.getD undef=x:=by simpa using hr
 have e1:=run_loadVar_row (P:=prog) w g ty ty (SC n V) (0,0) _ hg h1 (by cases d<;>first | rfl | exact h2) (by rw[CH];exact h3);have e2:=run_loadVar_row (P:=prog) w g' ty' ty' (WA k' n' s') (0,0) _ hg' h1' rfl (by rw[A5];exact h3');simp[results,h,hp',hq',hr',asAddr,e1,e2]
theorem Oi(args:Array Value)(w:World):(callFunc 35 args).run prog w=.ok (.enter 35 args) w:=by kernel_rfl
theorem XR(b0 b1 b2 b3 b4 b5 b6:Nat)(O:Nat→Int)(P:Nat→Int)(E:Nat→Int)(T:Nat→Int)(ix:Int)(X:Int)(u:World)(hE:Env u)(c0:ArrAt u b0 .u8 22 32 O)(c1:ArrAt u b1 .u8 22 32 P)(c2:ArrAt u b2 .u8 22 32 E)(c3:ArrAt u b3 .u8 26 12 T)(c4:CAt u b4 23 (.int .u32 ix))(hst:∀u,Env u→Calls prog 36 #[.agg (WA .u8 32 O),.agg (WA .u8 32 P),.agg (WA .u8 32 E),.agg (WA .u8 12 T),.int .u32 ix] u fun e w'=>e=gup X∧Below u.heap.size u w'):Calls prog 35 #[.pointer (some ⟨b0,0,none⟩),.pointer (some ⟨b1,0,none⟩),.pointer (some ⟨b2,0,none⟩),.pointer (some ⟨b3,0,none⟩),.pointer (some ⟨b4,0,none⟩),.pointer (some ⟨b5,0,none⟩),.pointer (some ⟨b6,0,none⟩)] u fun e w'=>e=gup X∧Below u.heap.size u w':=by
 have e4:=c4.at;go_enter func35,ntmps35
 go_wp2_with (first|(refine Aq Af c0 (by rfl) ?_)|(refine Aq Af c1 (by rfl) ?_)|(refine Aq Af c2 (by rfl) ?_)|(refine Aq Bn c3 (by rfl) ?_))
 refine(hst _ hE).mono ?_;rintro x v1 ⟨rfl,hb⟩;exact⟨rfl,rfl,hb⟩
set_option linter.unusedVariables false in
theorem XS(O:Nat→Int)(P:Nat→Int)(E:Nat→Int)(T:Nat→Int)(ix:Int)(X:Int)(w:World)(hE:Env w)(hst:∀u,Env u→Calls prog 36 #[.agg (WA .u8 32 O),.agg (WA .u8 32 P),.agg (WA .u8 32 E),.agg (WA .u8 12 T),.int .u32 ix] u fun e w'=>e=gup X∧Below u.heap.size u w'):Calls prog 9 #[.agg (WA .u8 32 O),.agg (WA .u8 32 P),.agg (WA .u8 32 E),.agg (WA .u8 12 T),.int .u32 ix] w fun e w'=>e=.returned (.tuple #[.string ⟨#[]⟩,.agg (SC 162 DO),.int .i64 X])∧Below w.heap.size w w':=by
 obtain⟨W,hW⟩:∃W,W=((((((((w.alloc (.cells (WA .u8 32 O) 22)).alloc (.cells (WA .u8 32 P) 22)).alloc (.cells (WA .u8 32 E) 22)).alloc (.cells (WA .u8 12 T) 26)).alloc (.cells #[.int .u32 ix] 23)).alloc (.cells zeroCells31 31)).alloc (.cells #[.string ⟨#[]⟩] 9)).alloc (.cells zeroCells31 31)):=⟨_,rfl⟩;have hB:Below w.heap.size w W:=by rw[hW];exact((((((((Below.refl _ w).alloc (by simp) _).alloc (by simp) _).alloc (by simp;omega) _).alloc (by simp;omega) _).alloc (by simp;omega) _).alloc (by simp;omega) _).alloc (by simp;omega) _).alloc (by simp;omega) _
 have g0:ArrAt W w.heap.size .u8 22 32 O:=by rw[hW];exact Ac _ (Ac _ (Ac _ (Ac _ (Ac _ (Ac _ (Ac _ (As _ _ _ (by simp))))))))
 have g1:ArrAt W (w.heap.size+1) .u8 22 32 P:=by rw[hW];exact Ac _ (Ac _ (Ac _ (Ac _ (Ac _ (Ac _ (As _ _ _ (by simp)))))))
 have g2:ArrAt W (w.heap.size+1+1) .u8 22 32 E:=by rw[hW];exact Ac _ (Ac _ (Ac _ (Ac _ (Ac _ (As _ _ _ (by simp))))))
 have g3:ArrAt W (w.heap.size+1+1+1) .u8 26 12 T:=by rw[hW];exact Ac _ (Ac _ (Ac _ (Ac _ (As _ _ _ (by simp)))))
 have g4:CAt W (w.heap.size+1+1+1+1) 23 (.int .u32 ix):=by rw[hW];exact Ac _ (Ac _ (Ac _ (As _ _ _ (by simp))))
 have g5:SAt W (w.heap.size+1+1+1+1+1) 31 162 DO:=by
  unfold SAt;rw[hW,←FA];exact Ac _ (Ac _ (As _ _ _ (by simp)))
 have g6:CAt W (w.heap.size+1+1+1+1+1+1) 9 (.string ⟨#[]⟩):=by rw[hW];exact Ac _ (As _ _ _ (by simp))
 have g7:SAt W (w.heap.size+1+1+1+1+1+1+1) 31 162 DO:=by
  unfold SAt;rw[hW,←FA];exact As _ _ _ (by simp)
 replace hE:=hE.kept hB;have hss:W.heap.size=w.heap.size+1+1+1+1+1+1+1+1:=by rw[hW];simp
 have hAt:=DC 35 #[.pointer (some ⟨w.heap.size,0,none⟩),.pointer (some ⟨(w.heap.size+1),0,none⟩),.pointer (some ⟨(w.heap.size+1+1),0,none⟩),.pointer (some ⟨(w.heap.size+1+1+1),0,none⟩),.pointer (some ⟨(w.heap.size+1+1+1+1),0,none⟩),.pointer (some ⟨(w.heap.size+1+1+1+1+1+1),0,none⟩),.pointer (some ⟨(w.heap.size+1+1+1+1+1+1+1),0,none⟩)] (fun x=>x=(w.heap.size+1+1+1+1+1+1)∨x=(w.heap.size+1+1+1+1+1+1+1)) (fun x v=>x=X∧CAt v (w.heap.size+1+1+1+1+1+1) 9 (.string ⟨#[]⟩)∧SAt v (w.heap.size+1+1+1+1+1+1+1) 31 162 DO) W Oi (fun x hx=>by omega) (fun u hu=>by
  refine((XR w.heap.size (w.heap.size+1) (w.heap.size+1+1) (w.heap.size+1+1+1) (w.heap.size+1+1+1+1) (w.heap.size+1+1+1+1+1+1) (w.heap.size+1+1+1+1+1+1+1) O P E T ix X u (hE.kept hu) (g0.kept hu) (g1.kept hu) (g2.kept hu) (g3.kept hu) (g4.kept hu) hst).mono ?_);rintro e v ⟨rfl,hb⟩;exact⟨Dl hb,X,.inr rfl,rfl,(g6.kept hu).kept hb,(g7.kept hu).kept hb⟩)
 have hmf:∀(fn:Fn) (first cap:Array Value) (w:World),(Instr.makeFunc fn first cap).run prog w=.ok (.func fn first cap) w:=fun _ _ _ _=>rfl
 subst hW;go_enter func9,ntmps9;go_wp2_with fail;refine hAt.mono ?_;rintro e v0 ⟨x,vc,rfl,⟨hx,p0,p1⟩,tT,hb⟩;have hx':=hx.symm;clear hx;subst hx';clear hAt hmf;replace p0:=p0.block (hb.block (w.heap.size+1+1+1+1+1+1) (by omega));replace p1:=p1.block (hb.block (w.heap.size+1+1+1+1+1+1+1) (by omega));replace g5:=g5.block (tT.block (w.heap.size+1+1+1+1+1) g5.lt (by omega));replace hB:Below w.heap.size w v0:=⟨tT.os.trans hB.os,tT.tape.trans hB.tape,tT.output.trans hB.output,AcE hB.size tT.size,fun k hk=>(tT.block k (by have:=hB.size;omega) (by omega)).trans (hB.block k hk)⟩;clear tT hb hss g0 g1 g2 g3 g4 g6 g7 hE;go_wp2_with fail;have HL0:Hid (∀u,Touch (fun x=>x=(w.heap.size+1+1+1+1+1)) v0 u→CAt u (w.heap.size+1+1+1+1+1+1) 9 (.string ⟨#[]⟩)):=Hid.mk (fun u hu=>p0.block (hu.block (w.heap.size+1+1+1+1+1+1) p0.lt (by omega)));have HL1:Hid (∀u,Touch (fun x=>x=(w.heap.size+1+1+1+1+1)) v0 u→SAt u (w.heap.size+1+1+1+1+1+1+1) 31 162 DO):=Hid.mk (fun u hu=>p1.block (hu.block (w.heap.size+1+1+1+1+1+1+1) p1.lt (by omega)));refine Ai (Touch (fun x=>x=(w.heap.size+1+1+1+1+1)) v0) v0.heap.size
   [((w.heap.size+1+1+1+1+1),once (SC 162 DO) 31 4 (SC 162 DO))]
   [kv (.string ⟨#[]⟩),kv (.agg (SC 162 DO)),kv (.int .i64 X),kv (.string ⟨#[]⟩),.val fun _=>True,kv (.int .i64 X)]
   [.none,.none,.none,.none,.base 0 1]
   [some 18,some 19,some 20,some 10,none,some 12]
   [(13,.pointer (some ⟨(w.heap.size+1+1+1+1+1+1),0,none⟩)),(14,.pointer (some ⟨(w.heap.size+1+1+1+1+1+1+1),0,none⟩)),(15,.int .i64 X),(11,.pointer (some ⟨(w.heap.size+1+1+1+1+1),0,none⟩))]
   [[],[],[],[.slot 0],[.slot 1,.base 0 0],[.slot 2]]
   [.base 0 1,.slot 3,.slot 5] [18,19,20,10,12]
   rfl (by kernel_rfl) ⟨rfl,rfl,rfl,rfl,trivial⟩ (Dl (Below.refl _ v0).drew) (Ac4 _) ⟨⟨g5.lt,Ao g5⟩,trivial⟩ ⟨trivial,trivial⟩ (GL (fun k hk=>by simpa using hk))
   ⟨
    (fun _ _ ww _ hS _ fr _=>sV (Au rfl fr.1 (Fz (HL0.out ww hS).at))),
    (fun _ _ ww _ hS _ fr _=>sV (BH rfl C7 (HL1.out ww hS) fr.2.1)),
    sL fun f _=>sV (Ab rfl f.2.2.1),
    sL fun _ k=>sV (Az rfl k.1),
    sL fun f k=>.inl ⟨trivial,fun K hK=>Ed rfl C7 (GH _ _ _ _ _ _ _) f.2.2.2.1 k.1 (Ak k.2.1) (fun w2 hg ho=>hK _ _ ⟨⟨Ag ho,Ao hg⟩,trivial⟩)⟩,
    sL fun _ k=>sV (Az rfl k.1),
    trivial⟩ ?_
 intro vs own v9 hT1 hsz kn inj;clear inj hsz;have q0:SAt v9 (w.heap.size+1+1+1+1+1) 31 162 DO:=Ak kn.1;have e10:vs 10=_:=kn.2.1;have e12:vs 12=_:=kn.2.2.1;clear kn HL0 HL1;replace hB:Below w.heap.size w v9:=⟨hT1.os.trans hB.os,hT1.tape.trans hB.tape,hT1.output.trans hB.output,AcE hB.size hT1.size,fun k hk=>(hT1.block k (by have:=hB.size;omega) (by omega)).trans (hB.block k hk)⟩;simp only[Ap,Act.put,Ac6,Ac7,Ac5,e10,e12];go_wp2_with fail;exact bodyPost_ret (v:=.tuple #[.string ⟨#[]⟩,.agg (SC 162 DO),.int .i64 X]) (Hf results9 C7 q0 (by rfl) (by rfl) (by rfl)) rfl ⟨rfl,hB⟩
theorem Mp(args:Array Value)(w:World):(callFunc 45 args).run prog w=.ok (.enter 45 args) w:=by kernel_rfl
theorem U1(b0 b1 b2 b3:Nat)(O:Nat→Int)(m:ByteArray)(X:Int)(u:World)(hE:Env u)(c0:ArrAt u b0 .u8 22 32 O)(c1:CAt u b1 9 (.string m))(hst:∀u,Env u→Calls prog 46 #[.agg (WA .u8 32 O),.string m] u fun e w'=>e=gup X∧Below u.heap.size u w'):Calls prog 45 #[.pointer (some ⟨b0,0,none⟩),.pointer (some ⟨b1,0,none⟩),.pointer (some ⟨b2,0,none⟩),.pointer (some ⟨b3,0,none⟩)] u fun e w'=>e=gup X∧Below u.heap.size u w':=by
 have e1:=c1.at;go_enter func45,ntmps45
 go_wp2_with (first|(refine Aq Af c0 (by rfl) ?_))
 refine(hst _ hE).mono ?_;rintro x v1 ⟨rfl,hb⟩;exact⟨rfl,rfl,hb⟩
set_option linter.unusedVariables false in
theorem U2(O:Nat→Int)(m:ByteArray)(X:Int)(w:World)(hE:Env w)(hst:∀u,Env u→Calls prog 46 #[.agg (WA .u8 32 O),.string m] u fun e w'=>e=gup X∧Below u.heap.size u w'):Calls prog 11 #[.agg (WA .u8 32 O),.string m] w fun e w'=>e=.returned (.tuple #[.agg (SC 162 DO),.agg (WA .u8 12 (fun _=>0)),.int .i64 X])∧Below w.heap.size w w':=by
 obtain⟨W,hW⟩:∃W,W=((((((w.alloc (.cells (WA .u8 32 O) 22)).alloc (.cells #[.string m] 9)).alloc (.cells zeroCells31 31)).alloc (.cells (WA .u8 12 (fun _=>0)) 26)).alloc (.cells zeroCells31 31)).alloc (.cells (WA .u8 12 (fun _=>0)) 26)):=⟨_,rfl⟩;have hB:Below w.heap.size w W:=by rw[hW];exact((((((Below.refl _ w).alloc (by simp) _).alloc (by simp) _).alloc (by simp;omega) _).alloc (by simp;omega) _).alloc (by simp;omega) _).alloc (by simp;omega) _
 have g0:ArrAt W w.heap.size .u8 22 32 O:=by rw[hW];exact Ac _ (Ac _ (Ac _ (Ac _ (Ac _ (As _ _ _ (by simp))))))
 have g1:CAt W (w.heap.size+1) 9 (.string m):=by rw[hW];exact Ac _ (Ac _ (Ac _ (Ac _ (As _ _ _ (by simp)))))
 have g2:SAt W (w.heap.size+1+1) 31 162 DO:=by
  unfold SAt;rw[hW,←FA];exact Ac _ (Ac _ (Ac _ (As _ _ _ (by simp))))
 have g3:ArrAt W (w.heap.size+1+1+1) .u8 26 12 (fun _=>0):=by rw[hW];exact Ac _ (Ac _ (As _ _ _ (by simp)))
 have g4:SAt W (w.heap.size+1+1+1+1) 31 162 DO:=by
  unfold SAt;rw[hW,←FA];exact Ac _ (As _ _ _ (by simp))
 have g5:ArrAt W (w.heap.size+1+1+1+1+1) .u8 26 12 (fun _=>0):=by rw[hW];exact As _ _ _ (by simp)
 replace hE:=hE.kept hB;have hss:W.heap.size=w.heap.size+1+1+1+1+1+1:=by rw[hW];simp
 have hAt:=DC 45 #[.pointer (some ⟨w.heap.size,0,none⟩),.pointer (some ⟨(w.heap.size+1),0,none⟩),.pointer (some ⟨(w.heap.size+1+1+1+1),0,none⟩),.pointer (some ⟨(w.heap.size+1+1+1+1+1),0,none⟩)] (fun x=>x=(w.heap.size+1+1+1+1)∨x=(w.heap.size+1+1+1+1+1)) (fun x v=>x=X∧SAt v (w.heap.size+1+1+1+1) 31 162 DO∧ArrAt v (w.heap.size+1+1+1+1+1) .u8 26 12 (fun _=>0)) W Mp (fun x hx=>by omega) (fun u hu=>by
  refine((U1 w.heap.size (w.heap.size+1) (w.heap.size+1+1+1+1) (w.heap.size+1+1+1+1+1) O m X u (hE.kept hu) (g0.kept hu) (g1.kept hu) hst).mono ?_);rintro e v ⟨rfl,hb⟩;exact⟨Dl hb,X,.inr rfl,rfl,(g4.kept hu).kept hb,(g5.kept hu).kept hb⟩)
 have hmf:∀(fn:Fn) (first cap:Array Value) (w:World),(Instr.makeFunc fn first cap).run prog w=.ok (.func fn first cap) w:=fun _ _ _ _=>rfl
 subst hW;go_enter func11,ntmps11;go_wp2_with fail;refine hAt.mono ?_;rintro e v0 ⟨x,vc,rfl,⟨hx,p0,p1⟩,tT,hb⟩;have hx':=hx.symm;clear hx;subst hx';clear hAt hmf;replace p0:=p0.block (hb.block (w.heap.size+1+1+1+1) (by omega));replace p1:=p1.block (hb.block (w.heap.size+1+1+1+1+1) (by omega));replace g2:=g2.block (tT.block (w.heap.size+1+1) g2.lt (by omega));replace g3:=g3.block (tT.block (w.heap.size+1+1+1) g3.lt (by omega));replace hB:Below w.heap.size w v0:=⟨tT.os.trans hB.os,tT.tape.trans hB.tape,tT.output.trans hB.output,AcE hB.size tT.size,fun k hk=>(tT.block k (by have:=hB.size;omega) (by omega)).trans (hB.block k hk)⟩;clear tT hb hss g0 g1 g4 g5 hE;go_wp2_with fail;have HL0:Hid (∀u,Touch (fun x=>x=(w.heap.size+1+1)∨x=(w.heap.size+1+1+1)) v0 u→SAt u (w.heap.size+1+1+1+1) 31 162 DO):=Hid.mk (fun u hu=>p0.block (hu.block (w.heap.size+1+1+1+1) p0.lt (by omega)));have HL1:Hid (∀u,Touch (fun x=>x=(w.heap.size+1+1)∨x=(w.heap.size+1+1+1)) v0 u→ArrAt u (w.heap.size+1+1+1+1+1) .u8 26 12 (fun _=>0)):=Hid.mk (fun u hu=>p1.block (hu.block (w.heap.size+1+1+1+1+1) p1.lt (by omega)));refine Ai (Touch (fun x=>x=(w.heap.size+1+1)∨x=(w.heap.size+1+1+1)) v0) v0.heap.size
   [((w.heap.size+1+1),once (SC 162 DO) 31 3 (SC 162 DO)),((w.heap.size+1+1+1),once (WA .u8 12 (fun _=>0)) 26 4 (WA .u8 12 (fun _=>0)))]
   [kv (.agg (SC 162 DO)),kv (.agg (WA .u8 12 (fun _=>0))),kv (.int .i64 X),.val fun _=>True,.val fun _=>True,kv (.int .i64 X)]
   [.none,.none,.none,.base 0 1,.base 1 1]
   [some 12,some 13,some 14,none,none,some 6]
   [(7,.pointer (some ⟨(w.heap.size+1+1+1+1),0,none⟩)),(8,.pointer (some ⟨(w.heap.size+1+1+1+1+1),0,none⟩)),(9,.int .i64 X),(4,.pointer (some ⟨(w.heap.size+1+1),0,none⟩)),(5,.pointer (some ⟨(w.heap.size+1+1+1),0,none⟩))]
   [[],[],[],[.slot 0,.base 0 0],[.slot 1,.base 1 0],[.slot 2]]
   [.base 0 1,.base 1 1,.slot 5] [12,13,14,6]
   rfl (by kernel_rfl) ⟨rfl,rfl,rfl,rfl,rfl,trivial⟩ (Dl (Below.refl _ v0).drew) (Ac4 _) ⟨⟨g2.lt,Ao g2⟩,⟨g3.lt,Ao g3⟩,trivial⟩ ⟨⟨(show ((w.heap.size+1+1):Nat)≠(w.heap.size+1+1+1) from by omega),trivial⟩,trivial,trivial⟩ (GL (fun k hk=>by simpa using hk))
   ⟨
    (fun _ _ ww _ hS _ fr _=>sV (BH rfl C7 (HL0.out ww hS) fr.1)),
    (fun _ _ ww _ hS _ fr _=>sV (Bg rfl Bn (HL1.out ww hS) fr.2.1)),
    sL fun f _=>sV (Ab rfl f.2.2.1),
    sL fun f k=>.inl ⟨trivial,fun K hK=>Ed rfl C7 (GH _ _ _ _ _ _ _) f.2.2.2.1 k.1 (Ak k.2.1) (fun w2 hg ho=>hK _ _ ⟨⟨Ag ho,Ao hg⟩,trivial⟩)⟩,
    sL fun f k=>.inl ⟨trivial,fun K hK=>BQ rfl Bn f.2.2.2.2.1 k.1 (Ak k.2.1) (fun w2 hg ho=>hK _ _ ⟨⟨Ag ho,Ao hg⟩,trivial⟩)⟩,
    sL fun _ k=>sV (Az rfl k.1),
    trivial⟩ ?_
 intro vs own v9 hT1 hsz kn inj;clear inj hsz;have q0:SAt v9 (w.heap.size+1+1) 31 162 DO:=Ak kn.1;have q1:ArrAt v9 (w.heap.size+1+1+1) .u8 26 12 (fun _=>0):=Ak kn.2.1;have e6:vs 6=_:=kn.2.2.1;clear kn HL0 HL1;replace hB:Below w.heap.size w v9:=⟨hT1.os.trans hB.os,hT1.tape.trans hB.tape,hT1.output.trans hB.output,AcE hB.size hT1.size,fun k hk=>(hT1.block k (by have:=hB.size;omega) (by omega)).trans (hB.block k hk)⟩;simp only[Ap,Act.put,Ac6,Ac7,Ac5,e6];go_wp2_with fail;exact bodyPost_ret (v:=.tuple #[.agg (SC 162 DO),.agg (WA .u8 12 (fun _=>0)),.int .i64 X]) (ZB results11 C7 Bn q0 q1 (by rfl) (by rfl) (by rfl)) rfl ⟨rfl,hB⟩
def Ace(O P E T H0 C0:Nat→Int)(ix:Int):ByteArray:=⟨#[1,0,0,0]⟩++A3 ix++mkS 32 (BV E)++bgA O P E H0 C0++bgB O P E T H0 C0
def Acf(H C R P S E:Nat→Int)(f ix:Int):ByteArray:=⟨#[2,0,0,0]⟩++A3 ix++A3 f++mkS 32 (BV E)++anB H C R P S E
theorem PA(args:Array Value)(w:World):(callFunc 18 args).run prog w=.ok (.enter 18 args) w:=by kernel_rfl
theorem U3(args:Array Value)(w:World):(callFunc 83 args).run prog w=.ok (.enter 83 args) w:=by kernel_rfl
theorem Acg(w:World):(zeroValue 118).run prog w=.ok (.agg (SC 35 XG)) w:=by kernel_rfl
theorem U4{ops:Array Oper}{rest:List Oper}{d:Option Tmp}{t:TypeId}{ps:String}{af:Array Edge}{a:Act}{w:World}{Q:Exit→Act→World→Prop}(h:∀w',SAt w' w.heap.size 118 35 XG→Below w.heap.size w w'→wpList prog ops Q rest (a.put d (.pointer (some ⟨w.heap.size,0,none⟩))) w'):wpList prog ops Q ({ dst:=d,op:=.alloc 118,type:=t,pos:=ps,after:=af,guard:=none }::rest) a w:=
 CF rfl (AU Acg rfl (fun w' hb hg=>h w' hg hb))
def JF(O P E T H0 C0:Nat→Int)(ix:Int):Ending:=if shZ E P=true∧shZ O P=true then .returned (.tuple #[.string (Ace O P E T H0 C0 ix),.agg (SC 162 (AY (AbU O P E T H0 C0) (AaQ O P E C0 0) E (fun _=>0) P ix 0))]) else gup 18
set_option linter.unusedVariables false in
theorem QV(O P E T H0 C0:Nat→Int)(ix:Int)(w:World)(hE:Env w)(hO:Byts 32 O)(hP:Byts 32 P)(hEk:Byts 32 E)(hT:Byts 12 T)(hC0:Byts 32 C0)(hH0:Byts 32 H0)(hBeg:∀u,Env u→Calls prog 78 #[.agg (WA .u8 32 P)] u fun e w'=>∃b,u.heap.size≤b∧e=.returned (.pointer (some ⟨b,0,none⟩))∧KtAt w' b H0 C0 (fun _=>0)∧Below u.heap.size u w'):Calls prog 36 #[.agg (WA .u8 32 O),.agg (WA .u8 32 P),.agg (WA .u8 32 E),.agg (WA .u8 12 T),.int .u32 ix] w fun e w'=>e=JF O P E T H0 C0 ix∧Below w.heap.size w w':=by
 obtain⟨RR,hRR⟩:∃V,JF O P E T H0 C0 ix=V:=⟨_,rfl⟩;rw[hRR];have hb4:Below (((((w.alloc (.cells (WA .u8 32 O) 22)).alloc (.cells (WA .u8 32 P) 22)).alloc (.cells (WA .u8 32 E) 22)).alloc (.cells (WA .u8 12 T) 26))).heap.size ((((w.alloc (.cells (WA .u8 32 O) 22)).alloc (.cells (WA .u8 32 P) 22)).alloc (.cells (WA .u8 32 E) 22)).alloc (.cells (WA .u8 12 T) 26)) (((((w.alloc (.cells (WA .u8 32 O) 22)).alloc (.cells (WA .u8 32 P) 22)).alloc (.cells (WA .u8 32 E) 22)).alloc (.cells (WA .u8 12 T) 26)).alloc (.cells zeroCells31 31)):=(Below.refl _ _).alloc (Ac4 _) _;have g0:ArrAt (((((w.alloc (.cells (WA .u8 32 O) 22)).alloc (.cells (WA .u8 32 P) 22)).alloc (.cells (WA .u8 32 E) 22)).alloc (.cells (WA .u8 12 T) 26)).alloc (.cells zeroCells31 31)) w.heap.size .u8 22 32 O:=ArrAt.kept (Ix w _ _ _ _) hb4;have g1:ArrAt (((((w.alloc (.cells (WA .u8 32 O) 22)).alloc (.cells (WA .u8 32 P) 22)).alloc (.cells (WA .u8 32 E) 22)).alloc (.cells (WA .u8 12 T) 26)).alloc (.cells zeroCells31 31)) (w.heap.size+1) .u8 22 32 P:=ArrAt.kept (Iy w _ _ _ _) hb4;have g2:ArrAt (((((w.alloc (.cells (WA .u8 32 O) 22)).alloc (.cells (WA .u8 32 P) 22)).alloc (.cells (WA .u8 32 E) 22)).alloc (.cells (WA .u8 12 T) 26)).alloc (.cells zeroCells31 31)) (w.heap.size+1+1) .u8 22 32 E:=ArrAt.kept (Iz w _ _ _ _) hb4;have g3:ArrAt (((((w.alloc (.cells (WA .u8 32 O) 22)).alloc (.cells (WA .u8 32 P) 22)).alloc (.cells (WA .u8 32 E) 22)).alloc (.cells (WA .u8 12 T) 26)).alloc (.cells zeroCells31 31)) (w.heap.size+1+1+1) .u8 26 12 T:=ArrAt.kept (E4 w _ _ _ _) hb4
 have gH:SAt (((((w.alloc (.cells (WA .u8 32 O) 22)).alloc (.cells (WA .u8 32 P) 22)).alloc (.cells (WA .u8 32 E) 22)).alloc (.cells (WA .u8 12 T) 26)).alloc (.cells zeroCells31 31)) (w.heap.size+1+1+1+1) 31 162 DO:=by
  have h:=heap_alloc_new ((((w.alloc (.cells (WA .u8 32 O) 22)).alloc (.cells (WA .u8 32 P) 22)).alloc (.cells (WA .u8 32 E) 22)).alloc (.cells (WA .u8 12 T) 26)) (.cells zeroCells31 31);have e:(((((w.alloc (.cells (WA .u8 32 O) 22)).alloc (.cells (WA .u8 32 P) 22)).alloc (.cells (WA .u8 32 E) 22)).alloc (.cells (WA .u8 12 T) 26))).heap.size=w.heap.size+1+1+1+1:=by simp
  rw[e] at h;unfold SAt;rw[←FA];exact h
 have hB:Below w.heap.size w (((((w.alloc (.cells (WA .u8 32 O) 22)).alloc (.cells (WA .u8 32 P) 22)).alloc (.cells (WA .u8 32 E) 22)).alloc (.cells (WA .u8 12 T) 26)).alloc (.cells zeroCells31 31)):=(((((Below.refl _ w).alloc (by simp) _).alloc (by simp) _).alloc (by simp;omega) _).alloc (by simp;omega) _).alloc (by simp;omega) _;replace hE:=hE.kept hB;have HOO:=Hid.mk hO;have HEE:=Hid.mk hEk;clear hb4;go_enter func36,ntmps36;go_wp2_with fail;refine AH (fun v=>ArrAt v w.heap.size .u8 22 32 O∧ArrAt v (w.heap.size+1) .u8 22 32 P∧ArrAt v (w.heap.size+1+1) .u8 22 32 E∧ArrAt v (w.heap.size+1+1+1) .u8 26 12 T∧SAt v (w.heap.size+1+1+1+1) 31 162 DO∧Below w.heap.size w v∧Env v) ⟨g0,g1,g2,g3,gH,hB,hE⟩ ?_;clear g0 g1 g2 g3 gH hB hE;rintro v0 ⟨g0,g1,g2,g3,gH,hB,hE⟩;have HG0:Hid (∀u,Below v0.heap.size v0 u→ArrAt u w.heap.size .u8 22 32 O):=Hid.mk (fun u hu=>g0.kept hu);have HG2:Hid (∀u,Below v0.heap.size v0 u→ArrAt u (w.heap.size+1+1) .u8 22 32 E):=Hid.mk (fun u hu=>g2.kept hu);have HP:Hid (∀u,Below v0.heap.size v0 u→Fld.PrimeAt u):=Hid.mk (fun u hu=>(hE.kept hu).2);have hHlt:=gH.lt;refine Ai (Below v0.heap.size v0) v0.heap.size
   ([]:List (Nat×Cont))
   [kv (.agg (WA .u8 32 E)),kv (.agg (WA .u8 32 (BV E))),kv (.agg (WA .u8 32 O)),kv (.agg (WA .u8 32 (BV O))),kp (WA .u8 32 fun _=>0) 22 6 (WA .u8 32 (BV E)),kp (WA .u8 32 fun _=>0) 22 7 (WA .u8 32 (BV O)),.val fun _=>True,.val fun _=>True]
   [.none,.none,.none,.none,.none,.none,.own 4 1,.own 5 1]
   [some 18,some 19,some 20,some 21,some 12,some 13,none,none]
   [(7,.pointer (some ⟨(w.heap.size+1+1),0,none⟩)),(5,.pointer (some ⟨w.heap.size,0,none⟩))]
   [[],[.slot 0],[],[.slot 2],[],[],[.slot 4,.cont 4 0,.slot 1],[.slot 5,.cont 5 0,.slot 3]]
   [.slot 4,.cont 4 1,.slot 5,.cont 5 1] [18,19,20,21,12,13]
   rfl (by kernel_rfl) ⟨rfl,rfl,trivial⟩ (Below.refl _ v0).drew (Ac4 _) trivial trivial (A6 (Ac4 _) trivial)
   ⟨
    (fun _ _ ww _ hS _ fr _=>sV (Bg rfl Af (HG2.out ww hS) fr.1)),
    (fun _ _ ww _ hS _ _ kn=>.inl ⟨trivial,fun K hK=>AD PA rfl (BE kn.1) (Ir E ww (HP.out ww hS) HEE.out) (fun w' hb=>hK _ _ ⟨Ad hb,rfl⟩)⟩),
    (fun _ _ ww _ hS _ fr _=>sV (Bg rfl Af (HG0.out ww hS) fr.2.1)),
    (fun _ _ ww _ hS _ _ kn=>.inl ⟨trivial,fun K hK=>AD PA rfl (BE kn.1) (Ir O ww (HP.out ww hS) HOO.out) (fun w' hb=>hK _ _ ⟨Ad hb,rfl⟩)⟩),
    sL fun _ _=>.inl ⟨trivial,fun K hK=>AU H8 rfl (fun w' hb hg=>hK _ _ ⟨Ad hb,_,Ac4 _,rfl,Ao hg⟩)⟩,
    sL fun _ _=>.inl ⟨trivial,fun K hK=>AU H8 rfl (fun w' hb hg=>hK _ _ ⟨Ad hb,_,Ac4 _,rfl,Ao hg⟩)⟩,
    sL fun _ k=>.inl ⟨trivial,fun K hK=>BQ rfl Af k.1.1 k.2.2.1 (Ak k.2.1) (fun w2 hg ho=>hK _ _ ⟨Ag ho,Ao hg,trivial⟩)⟩,
    sL fun _ k=>.inl ⟨trivial,fun K hK=>BQ rfl Af k.1.1 k.2.2.1 (Ak k.2.1) (fun w2 hg ho=>hK _ _ ⟨Ag ho,Ao hg,trivial⟩)⟩,
    trivial⟩ ?_
 intro vs own v1 hb hs1 kn inj;clear inj HG0 HG2 HP;obtain⟨k1,k2,k3,k4,-⟩:=kn;obtain⟨e12,hb12,_⟩:=k1;obtain⟨e13,hb13,_⟩:=k3;change vs 12=_ at e12;change vs 13=_ at e13;have ge:ArrAt v1 (own 4) .u8 22 32 (BV E):=Ak k2;have gk:ArrAt v1 (own 5) .u8 22 32 (BV O):=Ak k4;clear k2 k4 hs1;replace g0:=g0.kept hb;replace g1:=g1.kept hb;replace g2:=g2.kept hb;replace g3:=g3.kept hb;replace gH:=gH.kept hb;replace hE:=hE.kept hb;replace hB:=hB.trans (hb.mono hB.size);clear hb;simp only[Ap,Act.put,Ac6,Ac7,Ac5,e12,e13];generalize own 4=be at *;generalize own 5=bk at *;clear e12 e13;have hbe:w.heap.size+1+1+1+1+1≤be:=by omega
 have hbk:w.heap.size+1+1+1+1+1≤bk:=by omega
 clear hb12 hb13 hHlt
 go_wp2_with (refine Aq Af g1 (by rfl) ?_)
 have hlt1:=ge.lt;have hlt2:=gk.lt;have hlt3:=gH.lt;have hEt:=hE.two;have hBs:=hB.size;refine(hBeg _ hE).mono ?_;rintro x v2 ⟨b,hbb,rfl,g,hb⟩;have hb3:3≤b:=by omega
 have hbS:w.heap.size≤b:=by omega
 replace g0:=g0.kept hb;replace g1:=g1.kept hb;replace g2:=g2.kept hb;replace g3:=g3.kept hb;replace gH:=gH.kept hb;replace ge:=ge.kept hb;replace gk:=gk.kept hb;replace hE:=hE.kept hb;replace hB:=hB.trans (hb.mono hB.size);clear hb;clear hBeg hEt hBs
 go_wp2_with (refine Aq Af ge (by rfl) ?_)
 refine(Ew b H0 C0 _ (BV E) _ hE hb3 g hH0 hC0 (Iq E 32)).mono ?_;rintro x v3 ⟨rfl,g',t1⟩;replace g0:=g0.tou t1 (by omega);replace g1:=g1.tou t1 (by omega);replace g2:=g2.tou t1 (by omega);replace g3:=g3.tou t1 (by omega);replace gH:=gH.tou t1 (by omega);replace ge:=ge.tou t1 (by omega);replace gk:=gk.tou t1 (by omega);replace hE:=hE.touch t1 hb3;replace hB:=Br hB t1 hbS (Ac4 _);clear t1;clear g;have g:=g';clear g';have hC1:Byts 32 (chn C0 (mkS 32 (BV E)) 0):=Ex _ _ 0 32;have hH1:Byts 32 (Dk H0 (mkS 32 (BV E))):=EX _ _ 32;obtain⟨C1,hC1e⟩:∃X,chn C0 (mkS 32 (BV E)) 0=X:=⟨_,rfl⟩;obtain⟨H1,hH1e⟩:∃X,Dk H0 (mkS 32 (BV E))=X:=⟨_,rfl⟩;rw[hC1e] at g hC1;rw[hH1e] at g hH1;have hmf:∀(fn:Fn) (first cap:Array Value) (w:World),(Instr.makeFunc fn first cap).run prog w=.ok (.func fn first cap) w:=fun _ _ _ _=>rfl
 go_wp2_with (first|(refine Aq Af g2 (by rfl) ?_)|(refine Aq Af g1 (by rfl) ?_))
 by_cases hzE:shZ E P=true
 case neg =>
  have hz:shZ E P=false:=by simpa using hzE
  refine(EL _ E P _ hE hEk hP hz).mono ?_;rintro x v9 ⟨rfl,hb⟩;exact⟨rfl,by rw[←hRR];unfold JF;rw[if_neg (fun h=>hzE h.1)];rfl,hB.trans (hb.mono hB.size)⟩
 refine(Hv b H1 C1 _ E P _ hE g hC1 hEk hP hzE).mono ?_;rintro x v4 ⟨rfl,g',t1⟩;replace g0:=g0.tou t1 (by omega);replace g1:=g1.tou t1 (by omega);replace g2:=g2.tou t1 (by omega);replace g3:=g3.tou t1 (by omega);replace gH:=gH.tou t1 (by omega);replace ge:=ge.tou t1 (by omega);replace gk:=gk.tou t1 (by omega);replace hE:=hE.touch t1 hb3;replace hB:=Br hB t1 hbS (Ac4 _);clear t1;clear g;have g:=g';clear g';obtain⟨L,hLe⟩:∃X,chn C1 (mkS 32 (shF E P))=X:=⟨_,rfl⟩;have hL:∀i,Byts 32 (L i):=fun i=>hLe▸Ex _ _ i 32
 rw[hLe] at g;have hcv:=AB 32 bk 32 _ 32 (BV O) gk.row (Iq O 32) rfl;go_wp2_with fail;refine(LU b H1 (L 0) (L 1) (mkS 32 (BV O)) _ hE hb3 g hH1 (hL 1) (by rw[At];omega)).mono ?_;rintro x v5 ⟨rfl,g',t1⟩;replace g0:=g0.tou t1 (by omega);replace g1:=g1.tou t1 (by omega);replace g2:=g2.tou t1 (by omega);replace g3:=g3.tou t1 (by omega);replace gH:=gH.tou t1 (by omega);replace ge:=ge.tou t1 (by omega);replace gk:=gk.tou t1 (by omega);replace hE:=hE.touch t1 hb3;replace hB:=Br hB t1 hbS (Ac4 _);clear t1;clear g hcv;have g:=g';clear g';have hZas:(Et (L 1) Cu (mkS 32 (BV O)) (mkS 32 H1)).size≤48:=by rw[EI,At];omega
 obtain⟨Za,hZa⟩:∃X,Et (L 1) Cu (mkS 32 (BV O)) (mkS 32 H1)=X:=⟨_,rfl⟩;rw[hZa] at g hZas ⊢;obtain⟨H2,hH2e⟩:∃X,Dk H1 Za=X:=⟨_,rfl⟩;rw[hH2e] at g;have hH2:Byts 32 H2:=hH2e▸EX _ _ 32
 go_wp2_with (first|(refine Aq Af g0 (by rfl) ?_)|(refine Aq Af g1 (by rfl) ?_))
 by_cases hzO:shZ O P=true
 case neg =>
  have hz:shZ O P=false:=by simpa using hzO
  refine(EL _ O P _ hE hO hP hz).mono ?_;rintro x v9 ⟨rfl,hb⟩;exact⟨rfl,by rw[←hRR];unfold JF;rw[if_neg (fun h=>hzO h.2)];rfl,hB.trans (hb.mono hB.size)⟩
 refine(Hv b H2 (L 0) _ O P _ hE g (hL 0) hO hP hzO).mono ?_;rintro x v6 ⟨rfl,g',t1⟩;replace g0:=g0.tou t1 (by omega);replace g1:=g1.tou t1 (by omega);replace g2:=g2.tou t1 (by omega);replace g3:=g3.tou t1 (by omega);replace gH:=gH.tou t1 (by omega);replace ge:=ge.tou t1 (by omega);replace gk:=gk.tou t1 (by omega);replace hE:=hE.touch t1 hb3;replace hB:=Br hB t1 hbS (Ac4 _);clear t1;clear g;have g:=g';clear g';obtain⟨M,hMe⟩:∃X,chn (L 0) (mkS 32 (shF O P))=X:=⟨_,rfl⟩;have hM:∀i,Byts 32 (M i):=fun i=>hMe▸Ex _ _ i 32
 rw[hMe] at g;have hcv:=AB 12 (w.heap.size+1+1+1) 12 _ 12 T g3.row hT rfl;go_wp2_with fail;refine(LU b H2 (M 0) (M 1) (mkS 12 T) _ hE hb3 g hH2 (hM 1) (by rw[At];omega)).mono ?_;rintro x v7 ⟨rfl,g',t1⟩;replace g0:=g0.tou t1 (by omega);replace g1:=g1.tou t1 (by omega);replace g2:=g2.tou t1 (by omega);replace g3:=g3.tou t1 (by omega);replace gH:=gH.tou t1 (by omega);replace ge:=ge.tou t1 (by omega);replace gk:=gk.tou t1 (by omega);replace hE:=hE.touch t1 hb3;replace hB:=Br hB t1 hbS (Ac4 _);clear t1;clear g hcv;have g:=g';clear g';have hZbs:(Et (M 1) Cu (mkS 12 T) (mkS 32 H2)).size≤48:=by rw[EI,At];omega
 obtain⟨Zb,hZb⟩:∃X,Et (M 1) Cu (mkS 12 T) (mkS 32 H2)=X:=⟨_,rfl⟩;rw[hZb] at g hZbs ⊢;obtain⟨H3,hH3e⟩:∃X,Dk H2 Zb=X:=⟨_,rfl⟩;rw[hH3e] at g;have hH3:Byts 32 H3:=hH3e▸EX _ _ 32;have lqg0:=g0.lt;have lqg1:=g1.lt;have lqg2:=g2.lt;have lqg3:=g3.lt;have lqgH:=gH.lt;have lqge:=ge.lt;have lqgk:=gk.lt;have lqg:=g.lt;have lqB:=hB.size;have lqE:=hE.two
 go_wp2_with (first|(refine Aq Af ge (by rfl) ?_)|(refine Ae rfl (U0 rfl (by rfl) (by rfl) (by rfl) (by rfl)) ?_)|(refine U4 ?_;intro v8 gi0 hb;refine Hid.out ?_))
 replace g0:=g0.kept hb;replace g1:=g1.kept hb;replace g2:=g2.kept hb;replace g3:=g3.kept hb;replace gH:=gH.kept hb;replace ge:=ge.kept hb;replace gk:=gk.kept hb;replace g:=g.kept hb;replace hE:=hE.kept hb;replace hB:=hB.trans (hb.mono hB.size);clear hb;refine Hid.mk ?_
 go_wp2_with (refine Dw XH (XF _ _ _ _) gi0 (by rfl) (by rfl) ?_;intro v9 gi o6;refine Hid.out ?_)
 replace g0:=g0.only o6 (by omega);replace g1:=g1.only o6 (by omega);replace g2:=g2.only o6 (by omega);replace g3:=g3.only o6 (by omega);replace gH:=gH.only o6 (by omega);replace ge:=ge.only o6 (by omega);replace gk:=gk.only o6 (by omega);replace g:=g.only o6 (by omega);replace hE:=hE.only o6 (by omega);replace hB:=hB.trans (o6.below (by omega));clear o6;clear gi0;refine Hid.mk ?_;go_wp2_with fail;obtain⟨bi,hbi⟩:∃bi,v7.heap.size=bi:=⟨_,rfl⟩;rw[hbi] at gi;have HI:Hid (∀u,Touch (fun x=>x=(w.heap.size+1+1+1+1)) v9 u→SAt u bi 118 35 (It ix (BV E) Za Zb)):=Hid.mk (fun u hu=>gi.tou hu (by omega));have HG:Hid (∀u,Touch (fun x=>x=(w.heap.size+1+1+1+1)) v9 u→KtAt u b H3 (M 0) (M 1)):=Hid.mk (fun u hu=>g.block (hu.block b g.lt (by omega)));have HG1:Hid (∀u,Touch (fun x=>x=(w.heap.size+1+1+1+1)) v9 u→ArrAt u (w.heap.size+1) .u8 22 32 P):=Hid.mk (fun u hu=>g1.tou hu (by omega));have HG2:Hid (∀u,Touch (fun x=>x=(w.heap.size+1+1+1+1)) v9 u→ArrAt u (w.heap.size+1+1) .u8 22 32 E):=Hid.mk (fun u hu=>g2.tou hu (by omega));have HTX:=Hid.mk (XK ix (BV E) Za Zb (Iq E 32) (by omega) (by omega));rw[hbi];refine Ai (Touch (fun x=>x=(w.heap.size+1+1+1+1)) v9) v9.heap.size
   [((w.heap.size+1+1+1+1),once (SC 162 DO) 31 15 (SC 162 (AY H3 (M 0) E (fun _=>0) P ix 0)))]
   [kv (.agg (SC 35 (It ix (BV E) Za Zb))),kv (.string (⟨#[1,0,0,0]⟩++A3 ix++mkS 32 (BV E)++Za++Zb)),kv (.pointer (some ⟨b,0,none⟩)),kv (.pointer (some ⟨b,0,none⟩)),kv (.pointer (some ⟨b,0,none⟩)),kv (.agg (WA .u8 32 H3)),kv (.pointer (some ⟨b,0,none⟩)),kv (.pointer (some ⟨b,0,none⟩)),kv (.pointer (some ⟨b,32,none⟩)),kv (.agg (WA .u8 32 (M 0))),kv (.agg (WA .u8 32 E)),kv (.agg (WA .u8 32 P)),kv (.int .u32 ix),kv (.agg (SC 162 (AY H3 (M 0) E (fun _=>0) P ix 0))),kv (.string (⟨#[1,0,0,0]⟩++A3 ix++mkS 32 (BV E)++Za++Zb)),.val fun _=>True]
   [.none,.none,.none,.none,.none,.none,.none,.none,.none,.none,.none,.none,.none,.none,.none,.base 0 1]
   [some 50,some 51,some 52,some 53,some 54,some 55,some 56,some 57,some 58,some 59,some 60,some 61,some 62,some 63,some 10,none]
   [(17,.pointer (some ⟨bi,0,none⟩)),(14,.pointer (some ⟨b,0,none⟩)),(7,.pointer (some ⟨(w.heap.size+1+1),0,none⟩)),(6,.pointer (some ⟨(w.heap.size+1),0,none⟩)),(4,.int .u32 ix),(11,.pointer (some ⟨(w.heap.size+1+1+1+1),0,none⟩))]
   [[],[.slot 0],[],[.slot 2],[.slot 3],[.slot 4],[],[.slot 6],[.slot 7],[.slot 8],[],[],[],[.slot 5,.slot 9,.slot 10,.slot 11,.slot 12],[.slot 1],[.slot 13,.base 0 0]]
   [.base 0 1,.slot 14] [50,51,52,53,54,55,56,57,58,59,60,61,62,63,10]
   rfl (by kernel_rfl) ⟨rfl,rfl,rfl,rfl,rfl,rfl,trivial⟩ (CZ (w.heap.size+1+1+1+1) (Below.refl _ v9).drew) (Ac4 _) ⟨⟨gH.lt,Ao gH⟩,trivial⟩ ⟨trivial,trivial⟩ Fq
   ⟨
    (fun _ _ ww _ hS _ fr _=>sV (BH rfl XH (HI.out ww hS) fr.1)),
    (fun _ _ ww _ _ _ _ kn=>.inl ⟨trivial,fun K hK=>AD U3 rfl (BE kn.1) (HTX.out ww) (fun w' hb=>hK _ _ ⟨Ad hb,rfl⟩)⟩),
    sL fun f _=>sV (Ab rfl f.2.1),
    sL fun _ k=>sV (AZ rfl k.1),
    sL fun _ kn=>sV (Dz (k:=0) rfl kn.1 (by decide)),
    (fun _ _ ww _ hS _ _ kn=>sV (Al rfl Af kn.1 (HG.out ww hS).h)),
    sL fun f _=>sV (Ab rfl f.2.1),
    sL fun _ k=>sV (AZ rfl k.1),
    sL fun _ kn=>sV (Dz (k:=1) rfl kn.1 (by decide)),
    (fun _ _ ww _ hS _ _ kn=>sV (Al rfl Af kn.1 (HG.out ww hS).c)),
    (fun _ _ ww _ hS _ fr _=>sV (Bg rfl Af (HG2.out ww hS) fr.2.2.1)),
    (fun _ _ ww _ hS _ fr _=>sV (Bg rfl Af (HG1.out ww hS) fr.2.2.2.1)),
    sL fun f _=>sV (Ab rfl f.2.2.2.2.1),
    sL fun _ k=>sV (Ur rfl k.1 k.2.1 k.2.2.1 k.2.2.2.1 k.2.2.2.2.1),
    sL fun _ k=>sV (Az rfl k.1),
    sL fun f k=>.inl ⟨trivial,fun K hK=>Ed rfl C7 (GH _ _ _ _ _ _ _) f.2.2.2.2.2.1 k.1 (Ak k.2.1) (fun w2 hg ho=>hK _ _ ⟨⟨Ag ho,Ao hg⟩,trivial⟩)⟩,
    trivial⟩ ?_
 intro vs own v10 hT1 hsz kn inj;clear inj hsz;have gH6:SAt v10 (w.heap.size+1+1+1+1) 31 162 (AY H3 (M 0) E (fun _=>0) P ix 0):=Ak kn.1;have e10:vs 10=_:=kn.2.1;clear kn HG HG1 HG2 HI HTX;replace hB:=Br hB hT1 (by omega) (Ac4 _);simp only[Ap,Act.put,Ac6,Ac7,Ac5,e10];go_wp2_with fail;refine bodyPost_ret (v:=.tuple #[.string (⟨#[1,0,0,0]⟩++A3 ix++mkS 32 (BV E)++Za++Zb),.agg (SC 162 (AY H3 (M 0) E (fun _=>0) P ix 0))]) (XQ results36 C7 gH6 (by rfl) (by rfl)) rfl ⟨?_,hB⟩;rw[←hRR];unfold JF;rw[if_pos ⟨hzE,hzO⟩];simp only[Ace,AbU,bgB,AaR,AaQ,bgA,AaP,hC1e,hH1e,hLe,hZa,hH2e,hMe,hZb,hH3e]
set_option linter.unusedVariables false in
theorem U5(O P E T H0 C0:Nat→Int)(ix:Int)(w:World)(hE:Env w)(hO:Byts 32 O)(hP:Byts 32 P)(hEk:Byts 32 E)(hT:Byts 12 T)(hC0:Byts 32 C0)(hH0:Byts 32 H0)(hz:shZ E P=false)(hBeg:∀u,Env u→Calls prog 78 #[.agg (WA .u8 32 P)] u fun e w'=>∃b,u.heap.size≤b∧e=.returned (.pointer (some ⟨b,0,none⟩))∧KtAt w' b H0 C0 (fun _=>0)∧Below u.heap.size u w'):Calls prog 36 #[.agg (WA .u8 32 O),.agg (WA .u8 32 P),.agg (WA .u8 32 E),.agg (WA .u8 12 T),.int .u32 ix] w fun e w'=>e=gup 18∧Below w.heap.size w w':=by
 have h:=QV O P E T H0 C0 ix w hE hO hP hEk hT hC0 hH0 hBeg;unfold JF at h;rw[if_neg (fun h=>by rw[hz] at h;exact absurd h.1 (by decide))] at h;exact h
theorem ZC(w:World):(zeroValue 26).run prog w=.ok (.agg (WA .u8 12 fun _=>0)) w:=by kernel_rfl
theorem LZ{ops:Array Oper}{rest:List Oper}{d:Option Tmp}{t:TypeId}{ps:String}{af:Array Edge}{a:Act}{w:World}{Q:Exit→Act→World→Prop}(h:∀w',ArrAt w' w.heap.size .u8 26 12 (fun _=>0)→Below w.heap.size w w'→wpList prog ops Q rest (a.put d (.pointer (some ⟨w.heap.size,0,none⟩))) w'):wpList prog ops Q ({ dst:=d,op:=.alloc 26,type:=t,pos:=ps,after:=af,guard:=none }::rest) a w:=
 CF rfl (AU ZC rfl (fun w' hb hg=>h w' hg hb))
set_option linter.unusedVariables false in
theorem PB(O H0 C0:Nat→Int)(m:ByteArray)(w:World)(hE:Env w)(hO:Byts 32 O)(hC0:Byts 32 C0)(hH0:Byts 32 H0)(hm:¬(m.size=148∧C8 m 0 4=1))(hBeg:∀u,Env u→Calls prog 78 #[.agg (WA .u8 32 (BV O))] u fun e w'=>∃b,u.heap.size≤b∧e=.returned (.pointer (some ⟨b,0,none⟩))∧KtAt w' b H0 C0 (fun _=>0)∧Below u.heap.size u w'):Calls prog 46 #[.agg (WA .u8 32 O),.string m] w fun e w'=>e=gup (if m.size=148 then 11 else 10)∧Below w.heap.size w w':=by
 have g0:ArrAt (((w.alloc (.cells (WA .u8 32 O) 22)).alloc (.cells zeroCells31 31)).alloc (.cells (WA .u8 12 (fun _=>0)) 26)) w.heap.size .u8 22 32 O:=AA w _ _ _
 have gH:SAt (((w.alloc (.cells (WA .u8 32 O) 22)).alloc (.cells zeroCells31 31)).alloc (.cells (WA .u8 12 (fun _=>0)) 26)) (w.heap.size+1) 31 162 DO:=by
  have h:=AG w (.cells (WA .u8 32 O) 22) (.cells zeroCells31 31) (.cells (WA .u8 12 (fun _=>0)) 26);unfold SAt;rw[←FA];exact h
 have gS:ArrAt (((w.alloc (.cells (WA .u8 32 O) 22)).alloc (.cells zeroCells31 31)).alloc (.cells (WA .u8 12 (fun _=>0)) 26)) (w.heap.size+1+1) .u8 26 12 (fun _=>0):=AP w _ _ _;have hB:Below w.heap.size w (((w.alloc (.cells (WA .u8 32 O) 22)).alloc (.cells zeroCells31 31)).alloc (.cells (WA .u8 12 (fun _=>0)) 26)):=(((Below.refl _ w).alloc (by simp) _).alloc (by simp) _).alloc (by simp;omega) _;replace hE:=hE.kept hB;go_enter func46,ntmps46;go_wp2_with fail;refine(XN m _ hm).mono ?_;rintro x v1 ⟨rfl,hb⟩;exact⟨rfl,rfl,hB.trans (hb.mono hB.size)⟩
theorem XT:CV 26 12:=⟨_,_,underlying26,by kernel_rfl⟩
def Fv(a b:Nat→Int):Nat→Nat→Bool
 | 0,_=>false
 | n+1,i=>if a i=b i then Fv a b n (i+1) else decide (b i<a i)
def Cy(n:Int):Int:=if n<0 then 0 else if 1099511627776<n then 1099511627776 else n
def C9(n:Int)(j:Nat):Int:=if j<8 then (4611686018427387914+Cy n/1000)/256 ^ (7-j)%256 else Cy n%1000*1000000/256 ^ (11-j)%256
def FC(a:Nat→Int):Nat→Nat→Int
 | 0,_=>0
 | n+1,i=>a i*256 ^ n+FC a n (i+1)
theorem QW(a:Nat→Int):∀(n i:Nat),(∀j,j<n→0≤a (i+j)∧a (i+j)<256)→0≤FC a n i∧FC a n i<256 ^ n
 | 0,_,_=>by unfold FC;omega
 | n+1,i,h=>by
  have ih:=QW a n (i+1) (fun j hj=>by have:=h (j+1) (by omega);rwa [show i+(j+1)=i+1+j by omega] at this);have h0:=h 0 (by omega);rw[AcU] at h0;unfold FC;have hp:(0:Int)<256 ^ n:=Int.pow_pos (by omega);have h1:0≤a i*256 ^ n:=Int.mul_nonneg h0.1 (by omega);have h2:a i*256 ^ n≤255*256 ^ n:=Adq (by omega) (by omega);rw[AcF];omega
theorem Sj{p x y u v:Int}(hu:0≤u∧u<p)(hv:0≤v∧v<p)(h:x<y):x*p+u<y*p+v:=by
 have h1:(x+1)*p≤y*p:=Adq (by omega) (by omega);rw[Int.add_mul,Int.one_mul] at h1;omega
theorem FD(a b:Nat→Int):∀(n i:Nat),(∀j,j<n→0≤a (i+j)∧a (i+j)<256)→(∀j,j<n→0≤b (i+j)∧b (i+j)<256)→(Fv a b n i=true↔FC b n i<FC a n i)∧(FC a n i=FC b n i→∀j,j<n→a (i+j)=b (i+j))
 | 0,_,_,_=>⟨by unfold Fv FC;simp,fun _ j hj=>by omega⟩
 | n+1,i,ha,hb=>by
  have sa:∀j,j<n→0≤a (i+1+j)∧a (i+1+j)<256:=fun j hj=>by have:=ha (j+1) (by omega);rwa [show i+(j+1)=i+1+j by omega] at this
  have sb:∀j,j<n→0≤b (i+1+j)∧b (i+1+j)<256:=fun j hj=>by have:=hb (j+1) (by omega);rwa [show i+(j+1)=i+1+j by omega] at this
  have ih:=FD a b n (i+1) sa sb;have ra:=QW a n (i+1) sa;have rb:=QW b n (i+1) sb;unfold Fv FC
  by_cases e:a i=b i
  ·rw[if_pos e,e]
   refine⟨by rw[ih.1];omega,fun h j hj=>?_⟩;have h2:=ih.2 (by omega)
   match j,hj with
   | 0,_=>rw[AcU];exact e
   | j+1,hj=>have:=h2 j (by omega);rwa [show i+1+j=i+(j+1) by omega] at this
  ·rw[if_neg e]
   rcases Int.lt_or_gt_of_ne e with h | h
   ·have:=Sj ra rb h
    exact⟨by simp;omega,fun h=>by omega⟩
   ·have:=Sj rb ra h
    exact⟨by simp;omega,fun h=>by omega⟩
theorem XU{a b:Nat→Int}(ha:Byts 12 a)(hb:Byts 12 b):¬(Fv a b 12 0=true∧Fv b a 12 0=true):=by
 have h1:=FD a b 12 0 (fun j hj=>by rw[Ac9];exact ha j hj) (fun j hj=>by rw[Ac9];exact hb j hj);have h2:=FD b a 12 0 (fun j hj=>by rw[Ac9];exact hb j hj) (fun j hj=>by rw[Ac9];exact ha j hj);rw[h1.1,h2.1];omega
theorem ZD{a b:Nat→Int}(ha:Byts 12 a)(hb:Byts 12 b):(∀j,j<12→a j=b j)↔(Fv a b 12 0=false∧Fv b a 12 0=false):=by
 have h1:=FD a b 12 0 (fun j hj=>by rw[Ac9];exact ha j hj) (fun j hj=>by rw[Ac9];exact hb j hj);have h2:=FD b a 12 0 (fun j hj=>by rw[Ac9];exact hb j hj) (fun j hj=>by rw[Ac9];exact ha j hj);have e1:Fv a b 12 0=false↔¬FC b 12 0<FC a 12 0:=by rw[←h1.1];simp
 have e2:Fv b a 12 0=false↔¬FC a 12 0<FC b 12 0:=by rw[←h2.1];simp
 rw[e1,e2];constructor
 ·intro h
  have:FC a 12 0=FC b 12 0:=by
   simp only[FC,h 0 (by omega),h 1 (by omega),h 2 (by omega),h 3 (by omega),h 4 (by omega),h 5 (by omega),h 6 (by omega),h 7 (by omega),h 8 (by omega),h 9 (by omega),h 10 (by omega),h 11 (by omega),Nat.reduceAdd]
  omega
 ·intro h j hj
  have:=h1.2 (by omega) j hj
  rwa [Ac9] at this
theorem QX(n:Int)(k:Nat):Byts k (C9 n):=fun j _=>by unfold C9;split<;>omega
theorem Ac2(A:Int)(h0:0≤A)(h1:A<18446744073709551616):A/72057594037927936%256*72057594037927936+(A/281474976710656%256*281474976710656+(A/1099511627776%256*1099511627776+(A/4294967296%256*4294967296+(A/16777216%256*16777216+(A/65536%256*65536+(A/256%256*256+A%256))))))=A:=by omega
theorem Ac3(A:Int)(h0:0≤A)(h1:A<4294967296):A/16777216%256*16777216+(A/65536%256*65536+(A/256%256*256+A%256))=A:=by omega
theorem XV(n:Int):0≤Cy n∧Cy n≤1099511627776:=by unfold Cy;split<;>(try split)<;>omega
theorem Sk(n:Int):FC (C9 n) 12 0=(4611686018427387914+Cy n/1000)*4294967296+Cy n%1000*1000000:=by
 have hn:=XV n;have hA:=Ac2 (4611686018427387914+Cy n/1000) (by omega) (by omega);have hB:=Ac3 (Cy n%1000*1000000) (by omega) (by omega);have e:FC (C9 n) 12 0=C9 n 0*256 ^ 11+(C9 n 1*256 ^ 10+(C9 n 2*256 ^ 9+(C9 n 3*256 ^ 8+(C9 n 4*256 ^ 7+(C9 n 5*256 ^ 6+(C9 n 6*256 ^ 5+(C9 n 7*256 ^ 4+(C9 n 8*256 ^ 3+(C9 n 9*256 ^ 2+(C9 n 10*256 ^ 1+(C9 n 11*256 ^ 0+0))))))))))):=rfl;have h0:C9 n 0=(4611686018427387914+Cy n/1000)/72057594037927936%256:=rfl;have h1:C9 n 1=(4611686018427387914+Cy n/1000)/281474976710656%256:=rfl;have h2:C9 n 2=(4611686018427387914+Cy n/1000)/1099511627776%256:=rfl;have h3:C9 n 3=(4611686018427387914+Cy n/1000)/4294967296%256:=rfl;have h4:C9 n 4=(4611686018427387914+Cy n/1000)/16777216%256:=rfl;have h5:C9 n 5=(4611686018427387914+Cy n/1000)/65536%256:=rfl;have h6:C9 n 6=(4611686018427387914+Cy n/1000)/256%256:=rfl;have h7:C9 n 7=(4611686018427387914+Cy n/1000)/1%256:=rfl;have h8:C9 n 8=Cy n%1000*1000000/16777216%256:=rfl;have h9:C9 n 9=Cy n%1000*1000000/65536%256:=rfl;have h10:C9 n 10=Cy n%1000*1000000/256%256:=rfl;have h11:C9 n 11=Cy n%1000*1000000/1%256:=rfl;rw[Int.ediv_one] at h7 h11;rw[e,h0,h1,h2,h3,h4,h5,h6,h7,h8,h9,h10,h11];clear h0 h1 h2 h3 h4 h5 h6 h7 h8 h9 h10 h11 e;generalize (4611686018427387914+Cy n/1000)/72057594037927936%256=x0 at *;generalize (4611686018427387914+Cy n/1000)/281474976710656%256=x1 at *;generalize (4611686018427387914+Cy n/1000)/1099511627776%256=x2 at *;generalize (4611686018427387914+Cy n/1000)/4294967296%256=x3 at *;generalize (4611686018427387914+Cy n/1000)/16777216%256=x4 at *;generalize (4611686018427387914+Cy n/1000)/65536%256=x5 at *;generalize (4611686018427387914+Cy n/1000)/256%256=x6 at *;generalize (4611686018427387914+Cy n/1000)%256=x7 at *;generalize Cy n%1000*1000000/16777216%256=x8 at *;generalize Cy n%1000*1000000/65536%256=x9 at *;generalize Cy n%1000*1000000/256%256=x10 at *;generalize Cy n%1000*1000000%256=x11 at *;rw[←hB,←hA];omega
theorem Sl(a b:Int)(ha:0≤a∧a≤1099511627776)(hb:0≤b∧b≤1099511627776):Fv (C9 a) (C9 b) 12 0=decide (b<a):=by
 have h1:=FD (C9 a) (C9 b) 12 0 (fun j hj=>QX a (0+j+1) _ (by omega)) (fun j hj=>QX b (0+j+1) _ (by omega));rw[Sk,Sk] at h1;have ea:Cy a=a:=by unfold Cy;rw[if_neg (by omega),if_neg (by omega)]
 have eb:Cy b=b:=by unfold Cy;rw[if_neg (by omega),if_neg (by omega)]
 rw[ea,eb] at h1;have h2:=h1.1;have e:((4611686018427387914+b/1000)*4294967296+b%1000*1000000<(4611686018427387914+a/1000)*4294967296+a%1000*1000000)↔b<a:=by omega
 rw[e] at h2;rw[Bool.eq_iff_iff,h2,decide_eq_true_iff]
def Hp(f:Nat→Int):Nat→Nat→List UInt8
 | 0,_=>[]
 | n+1,i=>UInt8.ofNat (f i).toNat::Hp f n (i+1)
theorem Jg{x:Int}(h:0≤x∧x<256):(UInt8.ofNat x.toNat).toNat=x.toNat:=by
 rw[UInt8.toNat_ofNat'];exact Nat.mod_eq_of_lt (by omega)
theorem Ach{x y:Int}(hx:0≤x∧x<256)(hy:0≤y∧y<256):decide (UInt8.ofNat x.toNat<UInt8.ofNat y.toNat)=decide (x<y):=by
 have h:(UInt8.ofNat x.toNat<UInt8.ofNat y.toNat)↔x<y:=by
  rw[UInt8.lt_iff_toNat_lt,Jg hx,Jg hy];omega
 simp only[h]
theorem Aag{x y:Int}(hx:0≤x∧x<256)(hy:0≤y∧y<256):(UInt8.ofNat x.toNat==UInt8.ofNat y.toNat)=decide (x=y):=by
 have h:(UInt8.ofNat x.toNat=UInt8.ofNat y.toNat)↔x=y:=by
  rw[←UInt8.toNat_inj,Jg hx,Jg hy];omega
 rw[Bool.eq_iff_iff,beq_iff_eq,h,decide_eq_true_iff]
theorem PC(a b:Nat→Int):∀(n i:Nat),(∀j,j<n→0≤a (i+j)∧a (i+j)<256)→(∀j,j<n→0≤b (i+j)∧b (i+j)<256)→Op.bytesLess (Hp a n i) (Hp b n i)=Fv b a n i∧((Hp a n i==Hp b n i)=true↔∀j,j<n→a (i+j)=b (i+j))
 | 0,_,_,_=>⟨rfl,by simp[Hp]⟩
 | n+1,i,ha,hb=>by
  have sa:∀j,j<n→0≤a (i+1+j)∧a (i+1+j)<256:=fun j hj=>by have:=ha (j+1) (by omega);rwa [show i+(j+1)=i+1+j by omega] at this
  have sb:∀j,j<n→0≤b (i+1+j)∧b (i+1+j)<256:=fun j hj=>by have:=hb (j+1) (by omega);rwa [show i+(j+1)=i+1+j by omega] at this
  have ih:=PC a b n (i+1) sa sb;have h0:=ha 0 (by omega);have h1:=hb 0 (by omega);rw[AcU] at h0 h1;unfold Hp Fv;constructor
  ·rw[Op.bytesLess,Ach h0 h1,Aag h0 h1,ih.1]
   by_cases e:b i=a i
   ·rw[if_pos e,e];simp
   ·rw[if_neg e]
    have:¬a i=b i:=fun h=>e h.symm
    simp[this]
  ·rw[List.cons_beq_cons,AcB,Aag h0 h1,ih.2,decide_eq_true_iff]
   constructor
   ·rintro⟨e,h⟩ j hj
    match j,hj with
    | 0,_=>rw[AcU];exact e
    | j+1,hj=>have:=h j (by omega);rwa [show i+1+j=i+(j+1) by omega] at this
   ·intro h
    exact⟨by have:=h 0 (by omega);rwa [AcU] at this,fun j hj=>by have:=h (j+1) (by omega);rwa [show i+(j+1)=i+1+j by omega] at this⟩
theorem ZE{a b:Nat→Int}(ha:Byts 12 a)(hb:Byts 12 b):(!(Op.bytesLess (Hp a 12 0) (Hp b 12 0) || Hp a 12 0==Hp b 12 0))=Fv a b 12 0:=by
 have h:=PC a b 12 0 (fun j hj=>by rw[Ac9];exact ha j hj) (fun j hj=>by rw[Ac9];exact hb j hj);have h2:=ZD ha hb;have h3:=XU ha hb
 have h4:((Hp a 12 0==Hp b 12 0)=true)↔(Fv a b 12 0=false∧Fv b a 12 0=false):=by
  rw[h.2,←h2];simp only[Ac9]
 rw[h.1];generalize (Hp a 12 0==Hp b 12 0)=z at *;generalize Fv a b 12 0=x at *;generalize Fv b a 12 0=y at *;cases x<;>cases y<;>cases z<;>simp_all
theorem Aah(b:Nat)(w:World):(Instr.sliceAt 26 (.pointer (some ⟨b,0,none⟩)) none none none).run prog w=.ok (.slice (some ⟨b,0,none⟩) 12 12) w:=by simp[go_sem]
theorem PD(f:Nat→Int):(mkS 12 f).toList=Hp f 12 0:=by rw[Lib.toList_data];rfl
theorem Aci{a b:Nat→Int}(ha:Byts 12 a)(hb:Byts 12 b)(w:World):(binOp .gtr 9 (.string (mkS 12 a)) (.string (mkS 12 b))).run prog w=.ok (.bool (Fv a b 12 0)) w:=by
 rw[←ZE ha hb,←PD,←PD];rfl
theorem Nd(a b:Nat→Int)(w:World)(ha:Byts 12 a)(hb:Byts 12 b):Calls prog 32 #[.agg (WA .u8 12 a),.agg (WA .u8 12 b)] w fun e w'=>e=.returned (.bool (Fv a b 12 0))∧Below w.heap.size w w':=by
 have g0:ArrAt ((w.alloc (.cells (WA .u8 12 a) 26)).alloc (.cells (WA .u8 12 b) 26)) w.heap.size .u8 26 12 a:=heap_alloc2_old w _ _;have g1:ArrAt ((w.alloc (.cells (WA .u8 12 a) 26)).alloc (.cells (WA .u8 12 b) 26)) (w.heap.size+1) .u8 26 12 b:=heap_alloc2_new w _ _;have hB:Below w.heap.size w ((w.alloc (.cells (WA .u8 12 a) 26)).alloc (.cells (WA .u8 12 b) 26)):=((Below.refl _ w).alloc (by simp) _).alloc (by simp) _;have HA:=Hid.mk ha;have HBB:=Hid.mk hb;have HZ:=Hid.mk (Aci ha hb);generalize Fv a b 12 0=z at *;go_enter func32,ntmps32;go_wp2_with fail;refine AH (fun v=>ArrAt v w.heap.size .u8 26 12 a∧ArrAt v (w.heap.size+1) .u8 26 12 b∧Below w.heap.size w v) ⟨g0,g1,hB⟩ ?_;clear g0 g1 hB;rintro v0 ⟨g0,g1,hB⟩;have HG0:Hid (∀u,Below v0.heap.size v0 u→ArrAt u w.heap.size .u8 26 12 a):=Hid.mk (fun u hu=>g0.kept hu);have HG1:Hid (∀u,Below v0.heap.size v0 u→ArrAt u (w.heap.size+1) .u8 26 12 b):=Hid.mk (fun u hu=>g1.kept hu);refine Ai (Below v0.heap.size v0) v0.heap.size
   ([]:List (Nat×Cont))
   [kv (.slice (some ⟨w.heap.size,0,none⟩) 12 12),kv (.string (mkS 12 a)),kv (.slice (some ⟨(w.heap.size+1),0,none⟩) 12 12),kv (.string (mkS 12 b)),kv (.bool z),kv (.bool z)]
   []
   [some 5,some 6,some 7,some 8,some 9,some 4]
   [(2,.pointer (some ⟨w.heap.size,0,none⟩)),(3,.pointer (some ⟨(w.heap.size+1),0,none⟩))]
   [[],[.slot 0],[],[.slot 2],[.slot 1,.slot 3],[.slot 4]]
   [.slot 5] [5,6,7,8,9,4]
   rfl (by kernel_rfl) ⟨rfl,rfl,trivial⟩ (Below.refl _ v0).drew (Ac4 _) trivial trivial (A6 (Ac4 _) trivial)
   ⟨
    (fun _ _ ww _ _ _ fr _=>sV (Cb rfl fr.1 (Aah w.heap.size ww))),
    (fun _ _ ww _ hS _ _ kn=>sV (AE rfl kn.1 (AB 12 w.heap.size 12 ww 12 a (HG0.out ww hS).row HA.out rfl))),
    (fun _ _ ww _ _ _ fr _=>sV (Cb rfl fr.2.1 (Aah (w.heap.size+1) ww))),
    (fun _ _ ww _ hS _ _ kn=>sV (AE rfl kn.1 (AB 12 (w.heap.size+1) 12 ww 12 b (HG1.out ww hS).row HBB.out rfl))),
    (fun _ _ ww _ _ _ _ kn=>sV (Cm rfl kn.1 kn.2.1 rfl (HZ.out ww))),
    sL fun _ k=>sV (Az rfl k.1),
    trivial⟩ ?_
 intro vs own v5 hB5 hs5 kn inj;clear inj hs5 HG0 HG1;have e4:vs 4=_:=kn.1;clear kn;simp only[Ap,Act.put,Ac6,Ac7,Ac5,e4];go_wp2_with fail
 go_ret
 exact⟨rfl,hB.trans (hB5.mono hB.size)⟩
def hiD(N:Int)(k j:Nat):Int:=N/256 ^ (k-1-j)%256
theorem XW(N:Int)(k n:Nat):Byts n (hiD N k):=fun j _=>by unfold hiD;omega
theorem Kh(N:Int)(k:Nat)(w:World)(hk:k≤8):Calls prog 56 #[.int .u64 N,.int .i64 (k:Int)] w fun e w'=>e=.returned (.string (mkS k (hiD N k)))∧Below w.heap.size w w':=by
 have hkI:(k:Int)≤8:=by omega
 go_enter func56,ntmps56
 go_wp2_with (refine Du (by rfl) (by rfl) (by omega) ?_;intro v1 g1 hB;refine Hid.out ?_)
 refine Hid.mk ?_;go_wp2_with fail
 go_loopg [11] k (fun gm iv v=>∃i:Nat,Hid (gm+i=k)∧iv=.int .i64 (i:Int)∧ArrAt v w.heap.size .u8 5 k (fun j=>if j<i then hiD N k j else 0)∧Below w.heap.size w v)
 case atStart=>exact⟨0,Hid.mk rfl,rfl,g1.congr (fun j _=>by rw[if_neg (by omega)]),hB⟩
 case round =>
  clear g1 hB;obtain⟨i,HI,rfl,g1,hB⟩:=hrel;have hi8:i≤k:=by have:=HI.out;omega
  by_cases hil:i<k
  ·have hiI:(i:Int)<(k:Int):=by omega
   have c0:=g1.cell i hil;have f0:=g1.free i;have hpw:(2:Int) ^ (8*(k-1-i))=256 ^ (k-1-i):=by rw[Int.pow_mul];rfl
   have g2:=Hid.mk ((g1.set i (N/2 ^ (8*(k-1-i))%256) hil).congr (s':=fun j=>if j<i+1 then hiD N k j else 0) (fun j _=>by
    unfold upd
    by_cases e:j=i
    ·subst e;rw[if_pos rfl,if_pos (by omega),hpw];rfl
    ·rw[if_neg e]
     show (if j<i then hiD N k j else 0)=_
     by_cases h:j<i
     ·rw[if_pos h,if_pos (by omega)]
     ·rw[if_neg h,if_neg (by omega)]))
   clear hpw;go_wp2_with fail
   go_roundg (k-(i+1))
   case rel=>exact⟨i+1,Hid.mk (by omega),by go_num,g2.out,Below.setCell (p:=⟨w.heap.size,i,none⟩) hB (by simp) _⟩
   case measure=>have:=HI.out;omega
  ·have hi2:i=k:=by omega
   subst hi2;replace g1:=g1.congr (s':=hiD N i) (fun j hj=>by rw[if_pos hj]);have hcv:=AB i w.heap.size i wr i (hiD N i) g1.row (XW N i i) rfl;go_wp2_with fail
   go_ret
   exact⟨rfl,hB⟩
theorem ZF(n:Int):∀j,j<12→txt (mkS 8 (hiD (4611686018427387914+Cy n/1000) 8)++mkS 4 (hiD (Cy n%1000*1000000) 4)) j=C9 n j:=fun j hj=>by
 rw[ES,At];unfold C9
 by_cases h:j<8
 ·rw[if_pos h,if_pos h,I2 (XW _ 8 8 j h) h]
  unfold hiD;rw[show 8-1-j=7-j by omega]
 ·rw[if_neg h,if_neg h,I2 (XW _ 4 4 (j-8) (by omega)) (by omega)]
  unfold hiD;rw[show 4-1-(j-8)=11-j by omega]
theorem XX{a:Act}{o:Oper}{w:World}{x y:Operand}(ho:o.op=.call { callee:=.builtin .max,args:=#[x,y],argTypes:=#[3,3] }){m n:Int}(hx:a.eval x=.int .i64 m)(hy:a.eval y=.int .i64 n):(execOp a.eval o).run prog w=.ok (.value (.int .i64 (max m n))) w:=by
 have h:(if n > m then n else m)=max m n:=by split<;>omega
 simp[execOp,ho,resolve,invoke,builtin,hx,hy,run_max_int2,h]
theorem XZ{a:Act}{o:Oper}{w:World}{x y:Operand}(ho:o.op=.call { callee:=.builtin .min,args:=#[x,y],argTypes:=#[3,3] }){m n:Int}(hx:a.eval x=.int .i64 m)(hy:a.eval y=.int .i64 n):(execOp a.eval o).run prog w=.ok (.value (.int .i64 (min m n))) w:=by
 have h:(if n<m then n else m)=min m n:=by split<;>omega
 simp[execOp,ho,resolve,invoke,builtin,hx,hy,run_min_int2,h]
theorem FE(n:Int)(w:World):Calls prog 17 #[.int .i64 n] w fun e w'=>e=.returned (.agg (WA .u8 12 (C9 n)))∧Below w.heap.size w w':=by
 have hN:=XV n;have hmx:min (max n 0) 1099511627776=Cy n:=by unfold Cy;split<;>(try split)<;>omega
 have g0:ArrAt (w.alloc (.cells (WA .u8 12 fun _=>0) 26)) w.heap.size .u8 26 12 (fun _=>0):=heap_alloc_new w _;have hB:Below w.heap.size w (w.alloc (.cells (WA .u8 12 fun _=>0) 26)):=(Below.refl _ w).alloc (by simp) _;have HS:=Hid.mk (ZF n);have HMX:=Hid.mk hmx;clear hmx;generalize Cy n=N at *;have hq:N.tdiv 1000=N/1000:=AcW hN.1;have hr:N.tmod 1000=N%1000:=AcM hN.1;obtain⟨A,hA⟩:∃A,A=N/1000:=⟨_,rfl⟩;obtain⟨B,hBd⟩:∃B,B=N%1000:=⟨_,rfl⟩;rw[←hA] at hq HS;rw[←hBd] at hr HS;have hA2:0≤A∧A≤1099511628:=by omega
 have hB2:0≤B∧B<1000:=by omega
 clear hA hBd;go_enter func17,ntmps17
 go_wp2_with (first|(refine Ae rfl (XX rfl (by rfl) (by rfl)) ?_)|(refine Ae rfl (XZ rfl (by rfl) (by rfl)) ?_;rw[HMX.out]))
 refine(Kh (4611686018427387914+A) 8 _ (by omega)).mono ?_;rintro e v1 ⟨rfl,hb1⟩;replace g0:=g0.kept hb1;replace hB:=hB.trans (hb1.mono hB.size);clear hb1;go_wp2_with fail;refine(Kh (B*1000000) 4 _ (by omega)).mono ?_;rintro e v2 ⟨rfl,hb2⟩;replace g0:=g0.kept hb2;replace hB:=hB.trans (hb2.mono hB.size);clear hb2;have HL:Hid ((mkS 8 (hiD (4611686018427387914+A) 8)).size+(mkS 4 (hiD (B*1000000) 4)).size≤9223372036854775807):=Hid.mk (by rw[At,At];omega);have HE:Hid ((mkS 8 (hiD (4611686018427387914+A) 8)++mkS 4 (hiD (B*1000000) 4)).size=12):=Hid.mk (by rw[ByteArray.size_append,At,At]);generalize mkS 8 (hiD (4611686018427387914+A) 8)=X at *;generalize mkS 4 (hiD (B*1000000) 4)=Y at *
 go_wp2_with (first|(refine Ae rfl (AV rfl (by rfl) (by rfl) HL.out) ?_)|(refine Pz (by rfl) HE.out ?_;intro v3 cp r3 hb3;refine Hid.out ?_))
 have hlt:=g0.lt;replace g0:=g0.kept hb3;replace hB:=hB.trans (hb3.mono hB.size);have hr3:=Na r3;clear hb3 r3;refine Hid.mk ?_
 go_wp2_with (first|(refine Ae rfl (P0 rfl (by rfl) (Aca _ _ _)) ?_)|(refine Ae rfl (Al rfl XT (by rfl) hr3) ?_)|(refine A0 XT g0 (by rfl) (by rfl) ?_;intro v7 g7 o7;refine Hid.out ?_))
 refine Hid.mk ?_;go_wp2_with fail;replace g7:=g7.congr HS.out;exact bodyPost_ret (AC results17 XT g7 (by rfl)) rfl ⟨rfl,hB.trans (o7.below (Ac4 _))⟩
def Ki(n:Int)(j:Nat):Int:=if j=0 then n else 0
theorem Sn{n:Int}(h:0≤n∧n<256):Byts 32 (Ki n):=fun j _=>by unfold Ki;split<;>omega
theorem So(k:Nat):Byts k (fun _=>0):=fun _ _=>⟨Int.le_refl 0,of_decide_eq_true rfl⟩
theorem Abc(w:World):(Instr.build 22 #[]).run prog w=.ok (.agg (WA .u8 32 fun _=>0)) w:=by kernel_rfl
theorem ZG(w:World):(Instr.build 26 #[]).run prog w=.ok (.agg (WA .u8 12 fun _=>0)) w:=by kernel_rfl
theorem Abd(w:World):(Instr.build 22 #[(0,.int .u8 1)]).run prog w=.ok (.agg (WA .u8 32 (Ki 1))) w:=by kernel_rfl
theorem Abe(w:World):(Instr.build 22 #[(0,.int .u8 2)]).run prog w=.ok (.agg (WA .u8 32 (Ki 2))) w:=by kernel_rfl
theorem Sp{a:Act}{o:Oper}{w:World}(ho:o.op=.build 22 #[]):(execOp a.eval o).run prog w=.ok (.value (.agg (WA .u8 32 fun _=>0))) w:=by
 have h:=Abc w;unfold execOp;simp only[ho,AcH,AcD,Sem.run_bind,h,Result.andThen_ok,Sem.run_pure]
theorem Ya{a:Act}{o:Oper}{w:World}(ho:o.op=.build 26 #[]):(execOp a.eval o).run prog w=.ok (.value (.agg (WA .u8 12 fun _=>0))) w:=by
 have h:=ZG w;unfold execOp;simp only[ho,AcH,AcD,Sem.run_bind,h,Result.andThen_ok,Sem.run_pure]
theorem ZH{a:Act}{o:Oper}{w:World}(ho:o.op=.build 22 #[(0,.const (.int .u8 1))]):(execOp a.eval o).run prog w=.ok (.value (.agg (WA .u8 32 (Ki 1)))) w:=by
 have h:=Abd w;unfold execOp;simp only[ho,AcH,AcG,AcD,Act.eval,Sem.run_bind,h,Result.andThen_ok,Sem.run_pure]
theorem ZI{a:Act}{o:Oper}{w:World}(ho:o.op=.build 22 #[(0,.const (.int .u8 2))]):(execOp a.eval o).run prog w=.ok (.value (.agg (WA .u8 32 (Ki 2)))) w:=by
 have h:=Abe w;unfold execOp;simp only[ho,AcH,AcG,AcD,Act.eval,Sem.run_bind,h,Result.andThen_ok,Sem.run_pure]
theorem U6(w:World):(zeroValue 31).run prog w=.ok (.agg (SC 162 DO)) w:=by kernel_rfl
theorem Nf{ops:Array Oper}{rest:List Oper}{d:Option Tmp}{t:TypeId}{ps:String}{af:Array Edge}{a:Act}{w:World}{Q:Exit→Act→World→Prop}(h:∀w',SAt w' w.heap.size 31 162 DO→Below w.heap.size w w'→wpList prog ops Q rest (a.put d (.pointer (some ⟨w.heap.size,0,none⟩))) w'):wpList prog ops Q ({ dst:=d,op:=.alloc 31,type:=t,pos:=ps,after:=af,guard:=none }::rest) a w:=
 CF rfl (AU U6 rfl (fun w' hb hg=>h w' hg hb))
theorem ZJ(k:Int):Fld.tN k 0=0:=by
 unfold Fld.tN;have h:Fld.ofI (0%Fld.W255)=0:=Fld.fp_ext (by rw[Fld.ofI_val];decide +kernel);rw[h,Fld.lad_zero];rfl
theorem Yb(k:Nat→Int):shZ k (fun _=>0)=false:=by
 unfold shZ;have h:nm (fun _=>0)=0:=by decide +kernel
 rw[h,ZJ];rfl
theorem PE(w:World)(hE:Env w):Calls prog 11 #[.agg (WA .u8 32 fun _=>0),.string ⟨#[]⟩] w fun e w'=>e=.returned (.tuple #[.agg (SC 162 DO),.agg (WA .u8 12 (fun _=>0)),.int .i64 10])∧Below w.heap.size w w':=
 U2 (fun _=>0) ⟨#[]⟩ 10 w hE (fun u hu=>PB (fun _=>0) (YV (BV fun _=>0)) TF ⟨#[]⟩ u hu (So 32) (Qu 32) (Xu _ 32) (fun h=>absurd h.1 (by decide)) (fun u hu=>Hw _ u hu (Iq _ 32)))
theorem QY(O E T:Nat→Int)(ix:Int)(w:World)(hE:Env w)(hO:Byts 32 O)(hEk:Byts 32 E)(hT:Byts 12 T):Calls prog 9 #[.agg (WA .u8 32 O),.agg (WA .u8 32 fun _=>0),.agg (WA .u8 32 E),.agg (WA .u8 12 T),.int .u32 ix] w fun e w'=>e=.returned (.tuple #[.string ⟨#[]⟩,.agg (SC 162 DO),.int .i64 18])∧Below w.heap.size w w':=
 XS O (fun _=>0) E T ix 18 w hE (fun u hu=>U5 O (fun _=>0) E T (YV fun _=>0) TF ix u hu hO (So 32) hEk hT (Qu 32) (Xu _ 32) (Yb E) (fun u hu=>Hw _ u hu (So 32)))
theorem QZ(w:World)(hE:Env w):Calls prog 8 #[] w fun e w'=>e=.returned (.bool true)∧Below w.heap.size w w':=by
 have hB:Below w.heap.size w w:=Below.refl _ w;go_enter func8,ntmps8
 go_wp2_with (refine Ae rfl (Sp rfl) ?_)
 refine(PE _ hE).mono ?_;rintro x v1 ⟨rfl,hb⟩;replace hE:=hE.kept hb;replace hB:=hB.trans (hb.mono hB.size);clear hb;have l1:=hB.size;have k1:=hE.two
 go_wp2_with (refine Nf ?_;intro v2 g1 hb;refine Hid.out ?_)
 replace hE:=hE.kept hb;replace hB:=hB.trans (hb.mono hB.size);clear hb;refine Hid.mk ?_;have l2:=hB.size;have k2:=hE.two;have m2:=g1.lt
 go_wp2_with (refine LZ ?_;intro v3 g2 hb;refine Hid.out ?_)
 replace hE:=hE.kept hb;replace hB:=hB.trans (hb.mono hB.size);replace g1:=g1.kept hb;clear hb;refine Hid.mk ?_
 go_wp2_with (refine Dw C7 (GH _ _ _ _ _ _ _) g1 (by rfl) (by rfl) ?_;intro v4 g4 o4;refine Hid.out ?_)
 replace hE:=hE.only o4 (by omega);replace hB:=hB.trans (o4.below l1);replace g2:=g2.only o4 (by omega);clear o4 g1 g4;refine Hid.mk ?_
 go_wp2_with (refine A0 Bn g2 (by rfl) (by rfl) ?_;intro v5 g5 o5;refine Hid.out ?_)
 replace hE:=hE.only o5 (by omega);replace hB:=hB.trans (o5.below l2);clear o5 g2 g5;refine Hid.mk ?_
 go_wp2_with (first|(refine Ae rfl (Sp rfl) ?_)|(refine Ae rfl (ZH rfl) ?_)|(refine Ae rfl (ZI rfl) ?_)|(refine Ae rfl (Ya rfl) ?_))
 refine(QY (Ki 1) (Ki 2) _ 3 _ hE (Sn (by omega)) (Sn (by omega)) (So 12)).mono ?_;rintro x v6 ⟨rfl,hb⟩;replace hE:=hE.kept hb;replace hB:=hB.trans (hb.mono hB.size);clear hb;have l6:=hB.size;have k6:=hE.two
 go_wp2_with (refine Nf ?_;intro v7 g7 hb;refine Hid.out ?_)
 replace hE:=hE.kept hb;replace hB:=hB.trans (hb.mono hB.size);clear hb;refine Hid.mk ?_
 go_wp2_with (refine Dw C7 (GH _ _ _ _ _ _ _) g7 (by rfl) (by rfl) ?_;intro v8 g8 o8;refine Hid.out ?_)
 replace hE:=hE.only o8 (by omega);replace hB:=hB.trans (o8.below l6);clear o8 g7 g8;refine Hid.mk ?_;go_wp2_with fail;refine(FE 1500 _).mono ?_;rintro x v9 ⟨rfl,hb⟩;replace hB:=hB.trans (hb.mono hB.size);clear hb hE;have l9:=hB.size
 go_wp2_with (refine LZ ?_;intro v10 g10 hb;refine Hid.out ?_)
 replace hB:=hB.trans (hb.mono hB.size);clear hb;refine Hid.mk ?_
 go_wp2_with (refine A0 Bn g10 (by rfl) (by rfl) ?_;intro v11 g11 o11;refine Hid.out ?_)
 replace hB:=hB.trans (o11.below l9);clear o11 g10;have s7:C9 1500 7=11:=by decide +kernel
 have s8:C9 1500 8=29:=by decide +kernel
 have c7:=g11.cell 7 (by omega);have c8:=g11.cell 8 (by omega);rw[s7] at c7;rw[s8] at c8;have t21:=Sl 2 1 (by omega) (by omega);have t11:=Sl 1 1 (by omega) (by omega);have HS:=fun n=>QX n 12
 refine Hid.mk ?_;go_wp2_with fail;refine(FE 2 _).mono ?_;rintro x v12 ⟨rfl,hb⟩;replace hB:=hB.trans (hb.mono hB.size);clear hb;go_wp2_with fail;refine(FE 1 _).mono ?_;rintro x v13 ⟨rfl,hb⟩;replace hB:=hB.trans (hb.mono hB.size);clear hb;go_wp2_with fail;refine(Nd (C9 2) (C9 1) _ (HS 2) (HS 1)).mono ?_;rintro x v14 ⟨rfl,hb⟩;replace hB:=hB.trans (hb.mono hB.size);clear hb;rw[t21];go_wp2_with fail;refine(FE 1 _).mono ?_;rintro x v15 ⟨rfl,hb⟩;replace hB:=hB.trans (hb.mono hB.size);clear hb;go_wp2_with fail;refine(FE 1 _).mono ?_;rintro x v16 ⟨rfl,hb⟩;replace hB:=hB.trans (hb.mono hB.size);clear hb;go_wp2_with fail;refine(Nd (C9 1) (C9 1) _ (HS 1) (HS 1)).mono ?_;rintro x v17 ⟨rfl,hb⟩;replace hB:=hB.trans (hb.mono hB.size);clear hb;rw[t11];go_wp2_with fail
 go_ret
 exact⟨rfl,hB⟩
theorem Hx(args:Array Value)(w:World):(callFunc 50 args).run prog w=.ok (.enter 50 args) w:=by kernel_rfl
theorem U7(b0 b1 b2 b3 b4 b5:Nat)(h:Nat→Value)(S:Nat→Int)(E:Nat→Int)(ix:Int)(MS:ByteArray)(V:Nat→Value)(u:World)(hE:Env u)(c0:SAt u b0 31 162 h)(c1:ArrAt u b1 .u8 22 32 S)(c2:ArrAt u b2 .u8 22 32 E)(c3:CAt u b3 23 (.int .u32 ix))(c4:CAt u b4 9 (.string ⟨#[]⟩))(c5:SAt u b5 41 66 CI)(h1V:∀i,(V i).oneCell'=true)(hne:b4≠b5)(hst:∀u,Env u→Calls prog 51 #[.agg (SC 162 h),.agg (WA .u8 32 S),.agg (WA .u8 32 E),.int .u32 ix] u fun e w'=>e=.returned (.tuple #[.string MS,.agg (SC 66 V)])∧Below u.heap.size u w'):Calls prog 50 #[.pointer (some ⟨b0,0,none⟩),.pointer (some ⟨b1,0,none⟩),.pointer (some ⟨b2,0,none⟩),.pointer (some ⟨b3,0,none⟩),.pointer (some ⟨b4,0,none⟩),.pointer (some ⟨b5,0,none⟩)] u fun e w'=>e=.returned (.tuple #[])∧CAt w' b4 9 (.string MS)∧SAt w' b5 41 66 V∧Touch (fun x=>x=b4∨x=b5) u w':=by
 have touch_or0:∀{p q:World},Only b4 p q→Touch (fun x=>x=b4∨x=b5) p q:=fun o=>⟨o.os,o.tape,o.output,by rw[o.size];exact Ac4 _,fun k _ hn=>o.block k (fun h=>hn (by simp[h]))⟩
 have touch_or1:∀{p q:World},Only b5 p q→Touch (fun x=>x=b4∨x=b5) p q:=fun o=>⟨o.os,o.tape,o.output,by rw[o.size];exact Ac4 _,fun k _ hn=>o.block k (fun h=>hn (by simp[h]))⟩
 have e3:=c3.at;go_enter func50,ntmps50
 go_wp2_with (first|(refine Aq Af c1 (by rfl) ?_)|(refine Aq Af c2 (by rfl) ?_)|(refine Ae rfl (BH rfl C7 c0 (by rfl)) ?_))
 refine(hst _ hE).mono ?_;rintro x v1 ⟨rfl,hb⟩;replace c4:=c4.kept hb;replace c5:=c5.kept hb;have ht:Touch (fun x=>x=b4∨x=b5) u v1:=Dl hb;clear hb;have s0:=c4.at;have z0:=c4.free;have d0:=Hid.mk (c4.set (.string MS));have ht0:Touch (fun x=>x=b4∨x=b5) u (v1.setCell ⟨b4,0,none⟩ (.string MS)):=LY ht (touch_or0 only_set);replace c5:=c5.only (only_set (w:=v1) (g:=b4) (i:=0) (v:=.string MS)) (Ne.symm hne);replace ht:=ht0;clear ht0 c4
 go_wp2_with (refine Dw AW h1V c5 (by rfl) (by rfl) ?_;intro y1 d10 o1;refine Hid.out ?_)
 have d1:=Hid.mk d10;replace d0:=Hid.mk (d0.out.only o1 hne);replace ht:=LY ht (touch_or1 o1);clear d10 o1;refine Hid.mk ?_;go_wp2_with fail;exact bodyPost_end (results_none rfl _ _ _) rfl ⟨rfl,d0.out,d1.out,ht⟩
theorem U8(b0 b1 b2 b3 b4 b5:Nat)(h:Nat→Value)(S:Nat→Int)(E:Nat→Int)(ix:Int)(X:Int)(u:World)(hE:Env u)(c0:SAt u b0 31 162 h)(c1:ArrAt u b1 .u8 22 32 S)(c2:ArrAt u b2 .u8 22 32 E)(c3:CAt u b3 23 (.int .u32 ix))(hst:∀u,Env u→Calls prog 51 #[.agg (SC 162 h),.agg (WA .u8 32 S),.agg (WA .u8 32 E),.int .u32 ix] u fun e w'=>e=gup X∧Below u.heap.size u w'):Calls prog 50 #[.pointer (some ⟨b0,0,none⟩),.pointer (some ⟨b1,0,none⟩),.pointer (some ⟨b2,0,none⟩),.pointer (some ⟨b3,0,none⟩),.pointer (some ⟨b4,0,none⟩),.pointer (some ⟨b5,0,none⟩)] u fun e w'=>e=gup X∧Below u.heap.size u w':=by
 have e3:=c3.at;go_enter func50,ntmps50
 go_wp2_with (first|(refine Aq Af c1 (by rfl) ?_)|(refine Aq Af c2 (by rfl) ?_)|(refine Ae rfl (BH rfl C7 c0 (by rfl)) ?_))
 refine(hst _ hE).mono ?_;rintro x v1 ⟨rfl,hb⟩;exact⟨rfl,rfl,hb⟩
set_option linter.unusedVariables false in
theorem U9(h:Nat→Value)(S:Nat→Int)(E:Nat→Int)(ix:Int)(MS:ByteArray)(V:Nat→Value)(w:World)(hE:Env w)(h1V:∀i,(V i).oneCell'=true)(hst:∀u,Env u→Calls prog 51 #[.agg (SC 162 h),.agg (WA .u8 32 S),.agg (WA .u8 32 E),.int .u32 ix] u fun e w'=>e=.returned (.tuple #[.string MS,.agg (SC 66 V)])∧Below u.heap.size u w'):Calls prog 13 #[.agg (SC 162 h),.agg (WA .u8 32 S),.agg (WA .u8 32 E),.int .u32 ix] w fun e w'=>e=.returned (.tuple #[.string MS,.agg (SC 66 V),.int .i64 0])∧Below w.heap.size w w':=by
 obtain⟨W,hW⟩:∃W,W=(((((((w.alloc (.cells (SC 162 h) 31)).alloc (.cells (WA .u8 32 S) 22)).alloc (.cells (WA .u8 32 E) 22)).alloc (.cells #[.int .u32 ix] 23)).alloc (.cells zeroCells41 41)).alloc (.cells #[.string ⟨#[]⟩] 9)).alloc (.cells zeroCells41 41)):=⟨_,rfl⟩;have hB:Below w.heap.size w W:=by rw[hW];exact(((((((Below.refl _ w).alloc (by simp) _).alloc (by simp) _).alloc (by simp;omega) _).alloc (by simp;omega) _).alloc (by simp;omega) _).alloc (by simp;omega) _).alloc (by simp;omega) _
 have g0:SAt W w.heap.size 31 162 h:=by rw[hW];exact Ac _ (Ac _ (Ac _ (Ac _ (Ac _ (Ac _ (As _ _ _ (by simp)))))))
 have g1:ArrAt W (w.heap.size+1) .u8 22 32 S:=by rw[hW];exact Ac _ (Ac _ (Ac _ (Ac _ (Ac _ (As _ _ _ (by simp))))))
 have g2:ArrAt W (w.heap.size+1+1) .u8 22 32 E:=by rw[hW];exact Ac _ (Ac _ (Ac _ (Ac _ (As _ _ _ (by simp)))))
 have g3:CAt W (w.heap.size+1+1+1) 23 (.int .u32 ix):=by rw[hW];exact Ac _ (Ac _ (Ac _ (As _ _ _ (by simp))))
 have g4:SAt W (w.heap.size+1+1+1+1) 41 66 CI:=by
  unfold SAt;rw[hW,←CP];exact Ac _ (Ac _ (As _ _ _ (by simp)))
 have g5:CAt W (w.heap.size+1+1+1+1+1) 9 (.string ⟨#[]⟩):=by rw[hW];exact Ac _ (As _ _ _ (by simp))
 have g6:SAt W (w.heap.size+1+1+1+1+1+1) 41 66 CI:=by
  unfold SAt;rw[hW,←CP];exact As _ _ _ (by simp)
 replace hE:=hE.kept hB;have hss:W.heap.size=w.heap.size+1+1+1+1+1+1+1:=by rw[hW];simp
 have hAt:=DC 50 #[.pointer (some ⟨w.heap.size,0,none⟩),.pointer (some ⟨(w.heap.size+1),0,none⟩),.pointer (some ⟨(w.heap.size+1+1),0,none⟩),.pointer (some ⟨(w.heap.size+1+1+1),0,none⟩),.pointer (some ⟨(w.heap.size+1+1+1+1+1),0,none⟩),.pointer (some ⟨(w.heap.size+1+1+1+1+1+1),0,none⟩)] (fun x=>x=(w.heap.size+1+1+1+1+1)∨x=(w.heap.size+1+1+1+1+1+1)) (fun x v=>x=0∧CAt v (w.heap.size+1+1+1+1+1) 9 (.string MS)∧SAt v (w.heap.size+1+1+1+1+1+1) 41 66 V) W Hx (fun x hx=>by omega) (fun u hu=>by
  refine((U7 w.heap.size (w.heap.size+1) (w.heap.size+1+1) (w.heap.size+1+1+1) (w.heap.size+1+1+1+1+1) (w.heap.size+1+1+1+1+1+1) h S E ix MS V u (hE.kept hu) (g0.kept hu) (g1.kept hu) (g2.kept hu) (g3.kept hu) (g5.kept hu) (g6.kept hu) h1V (by omega) hst).mono ?_);rintro e v ⟨rfl,p0,p1,ht⟩;exact⟨ht,0,.inl ⟨rfl,rfl⟩,rfl,p0,p1⟩)
 have hmf:∀(fn:Fn) (first cap:Array Value) (w:World),(Instr.makeFunc fn first cap).run prog w=.ok (.func fn first cap) w:=fun _ _ _ _=>rfl
 subst hW;go_enter func13,ntmps13;go_wp2_with fail;refine hAt.mono ?_;rintro e v0 ⟨x,vc,rfl,⟨hx,p0,p1⟩,tT,hb⟩;have hx':=hx.symm;clear hx;subst hx';clear hAt hmf;replace p0:=p0.block (hb.block (w.heap.size+1+1+1+1+1) (by omega));replace p1:=p1.block (hb.block (w.heap.size+1+1+1+1+1+1) (by omega));replace g4:=g4.block (tT.block (w.heap.size+1+1+1+1) g4.lt (by omega));replace hB:Below w.heap.size w v0:=⟨tT.os.trans hB.os,tT.tape.trans hB.tape,tT.output.trans hB.output,AcE hB.size tT.size,fun k hk=>(tT.block k (by have:=hB.size;omega) (by omega)).trans (hB.block k hk)⟩;clear tT hb hss g0 g1 g2 g3 g5 g6 hE;go_wp2_with fail;have HL0:Hid (∀u,Touch (fun x=>x=(w.heap.size+1+1+1+1)) v0 u→CAt u (w.heap.size+1+1+1+1+1) 9 (.string MS)):=Hid.mk (fun u hu=>p0.block (hu.block (w.heap.size+1+1+1+1+1) p0.lt (by omega)));have HL1:Hid (∀u,Touch (fun x=>x=(w.heap.size+1+1+1+1)) v0 u→SAt u (w.heap.size+1+1+1+1+1+1) 41 66 V):=Hid.mk (fun u hu=>p1.block (hu.block (w.heap.size+1+1+1+1+1+1) p1.lt (by omega)));refine Ai (Touch (fun x=>x=(w.heap.size+1+1+1+1)) v0) v0.heap.size
   [((w.heap.size+1+1+1+1),once (SC 66 CI) 41 4 (SC 66 V))]
   [kv (.string MS),kv (.agg (SC 66 V)),kv (.int .i64 0),kv (.string MS),.val fun _=>True,kv (.int .i64 0)]
   [.none,.none,.none,.none,.base 0 1]
   [some 16,some 17,some 18,some 8,none,some 10]
   [(11,.pointer (some ⟨(w.heap.size+1+1+1+1+1),0,none⟩)),(12,.pointer (some ⟨(w.heap.size+1+1+1+1+1+1),0,none⟩)),(13,.int .i64 0),(9,.pointer (some ⟨(w.heap.size+1+1+1+1),0,none⟩))]
   [[],[],[],[.slot 0],[.slot 1,.base 0 0],[.slot 2]]
   [.base 0 1,.slot 3,.slot 5] [16,17,18,8,10]
   rfl (by kernel_rfl) ⟨rfl,rfl,rfl,rfl,trivial⟩ (Dl (Below.refl _ v0).drew) (Ac4 _) ⟨⟨g4.lt,Ao g4⟩,trivial⟩ ⟨trivial,trivial⟩ (GL (fun k hk=>by simpa using hk))
   ⟨
    (fun _ _ ww _ hS _ fr _=>sV (Au rfl fr.1 (Fz (HL0.out ww hS).at))),
    (fun _ _ ww _ hS _ fr _=>sV (BH rfl AW (HL1.out ww hS) fr.2.1)),
    sL fun f _=>sV (Ab rfl f.2.2.1),
    sL fun _ k=>sV (Az rfl k.1),
    sL fun f k=>.inl ⟨trivial,fun K hK=>Ed rfl AW h1V f.2.2.2.1 k.1 (Ak k.2.1) (fun w2 hg ho=>hK _ _ ⟨⟨Ag ho,Ao hg⟩,trivial⟩)⟩,
    sL fun _ k=>sV (Az rfl k.1),
    trivial⟩ ?_
 intro vs own v9 hT1 hsz kn inj;clear inj hsz;have q0:SAt v9 (w.heap.size+1+1+1+1) 41 66 V:=Ak kn.1;have e8:vs 8=_:=kn.2.1;have e10:vs 10=_:=kn.2.2.1;clear kn HL0 HL1;replace hB:Below w.heap.size w v9:=⟨hT1.os.trans hB.os,hT1.tape.trans hB.tape,hT1.output.trans hB.output,AcE hB.size hT1.size,fun k hk=>(hT1.block k (by have:=hB.size;omega) (by omega)).trans (hB.block k hk)⟩;simp only[Ap,Act.put,Ac6,Ac7,Ac5,e8,e10];go_wp2_with fail;exact bodyPost_ret (v:=.tuple #[.string MS,.agg (SC 66 V),.int .i64 0]) (Hf results13 AW q0 (by rfl) (by rfl) (by rfl)) rfl ⟨rfl,hB⟩
set_option linter.unusedVariables false in
theorem UA(h:Nat→Value)(S:Nat→Int)(E:Nat→Int)(ix:Int)(X:Int)(w:World)(hE:Env w)(hst:∀u,Env u→Calls prog 51 #[.agg (SC 162 h),.agg (WA .u8 32 S),.agg (WA .u8 32 E),.int .u32 ix] u fun e w'=>e=gup X∧Below u.heap.size u w'):Calls prog 13 #[.agg (SC 162 h),.agg (WA .u8 32 S),.agg (WA .u8 32 E),.int .u32 ix] w fun e w'=>e=.returned (.tuple #[.string ⟨#[]⟩,.agg (SC 66 CI),.int .i64 X])∧Below w.heap.size w w':=by
 obtain⟨W,hW⟩:∃W,W=(((((((w.alloc (.cells (SC 162 h) 31)).alloc (.cells (WA .u8 32 S) 22)).alloc (.cells (WA .u8 32 E) 22)).alloc (.cells #[.int .u32 ix] 23)).alloc (.cells zeroCells41 41)).alloc (.cells #[.string ⟨#[]⟩] 9)).alloc (.cells zeroCells41 41)):=⟨_,rfl⟩;have hB:Below w.heap.size w W:=by rw[hW];exact(((((((Below.refl _ w).alloc (by simp) _).alloc (by simp) _).alloc (by simp;omega) _).alloc (by simp;omega) _).alloc (by simp;omega) _).alloc (by simp;omega) _).alloc (by simp;omega) _
 have g0:SAt W w.heap.size 31 162 h:=by rw[hW];exact Ac _ (Ac _ (Ac _ (Ac _ (Ac _ (Ac _ (As _ _ _ (by simp)))))))
 have g1:ArrAt W (w.heap.size+1) .u8 22 32 S:=by rw[hW];exact Ac _ (Ac _ (Ac _ (Ac _ (Ac _ (As _ _ _ (by simp))))))
 have g2:ArrAt W (w.heap.size+1+1) .u8 22 32 E:=by rw[hW];exact Ac _ (Ac _ (Ac _ (Ac _ (As _ _ _ (by simp)))))
 have g3:CAt W (w.heap.size+1+1+1) 23 (.int .u32 ix):=by rw[hW];exact Ac _ (Ac _ (Ac _ (As _ _ _ (by simp))))
 have g4:SAt W (w.heap.size+1+1+1+1) 41 66 CI:=by
  unfold SAt;rw[hW,←CP];exact Ac _ (Ac _ (As _ _ _ (by simp)))
 have g5:CAt W (w.heap.size+1+1+1+1+1) 9 (.string ⟨#[]⟩):=by rw[hW];exact Ac _ (As _ _ _ (by simp))
 have g6:SAt W (w.heap.size+1+1+1+1+1+1) 41 66 CI:=by
  unfold SAt;rw[hW,←CP];exact As _ _ _ (by simp)
 replace hE:=hE.kept hB;have hss:W.heap.size=w.heap.size+1+1+1+1+1+1+1:=by rw[hW];simp
 have hAt:=DC 50 #[.pointer (some ⟨w.heap.size,0,none⟩),.pointer (some ⟨(w.heap.size+1),0,none⟩),.pointer (some ⟨(w.heap.size+1+1),0,none⟩),.pointer (some ⟨(w.heap.size+1+1+1),0,none⟩),.pointer (some ⟨(w.heap.size+1+1+1+1+1),0,none⟩),.pointer (some ⟨(w.heap.size+1+1+1+1+1+1),0,none⟩)] (fun x=>x=(w.heap.size+1+1+1+1+1)∨x=(w.heap.size+1+1+1+1+1+1)) (fun x v=>x=X∧CAt v (w.heap.size+1+1+1+1+1) 9 (.string ⟨#[]⟩)∧SAt v (w.heap.size+1+1+1+1+1+1) 41 66 CI) W Hx (fun x hx=>by omega) (fun u hu=>by
  refine((U8 w.heap.size (w.heap.size+1) (w.heap.size+1+1) (w.heap.size+1+1+1) (w.heap.size+1+1+1+1+1) (w.heap.size+1+1+1+1+1+1) h S E ix X u (hE.kept hu) (g0.kept hu) (g1.kept hu) (g2.kept hu) (g3.kept hu) hst).mono ?_);rintro e v ⟨rfl,hb⟩;exact⟨Dl hb,X,.inr rfl,rfl,(g5.kept hu).kept hb,(g6.kept hu).kept hb⟩)
 have hmf:∀(fn:Fn) (first cap:Array Value) (w:World),(Instr.makeFunc fn first cap).run prog w=.ok (.func fn first cap) w:=fun _ _ _ _=>rfl
 subst hW;go_enter func13,ntmps13;go_wp2_with fail;refine hAt.mono ?_;rintro e v0 ⟨x,vc,rfl,⟨hx,p0,p1⟩,tT,hb⟩;have hx':=hx.symm;clear hx;subst hx';clear hAt hmf;replace p0:=p0.block (hb.block (w.heap.size+1+1+1+1+1) (by omega));replace p1:=p1.block (hb.block (w.heap.size+1+1+1+1+1+1) (by omega));replace g4:=g4.block (tT.block (w.heap.size+1+1+1+1) g4.lt (by omega));replace hB:Below w.heap.size w v0:=⟨tT.os.trans hB.os,tT.tape.trans hB.tape,tT.output.trans hB.output,AcE hB.size tT.size,fun k hk=>(tT.block k (by have:=hB.size;omega) (by omega)).trans (hB.block k hk)⟩;clear tT hb hss g0 g1 g2 g3 g5 g6 hE;go_wp2_with fail;have HL0:Hid (∀u,Touch (fun x=>x=(w.heap.size+1+1+1+1)) v0 u→CAt u (w.heap.size+1+1+1+1+1) 9 (.string ⟨#[]⟩)):=Hid.mk (fun u hu=>p0.block (hu.block (w.heap.size+1+1+1+1+1) p0.lt (by omega)));have HL1:Hid (∀u,Touch (fun x=>x=(w.heap.size+1+1+1+1)) v0 u→SAt u (w.heap.size+1+1+1+1+1+1) 41 66 CI):=Hid.mk (fun u hu=>p1.block (hu.block (w.heap.size+1+1+1+1+1+1) p1.lt (by omega)));refine Ai (Touch (fun x=>x=(w.heap.size+1+1+1+1)) v0) v0.heap.size
   [((w.heap.size+1+1+1+1),once (SC 66 CI) 41 4 (SC 66 CI))]
   [kv (.string ⟨#[]⟩),kv (.agg (SC 66 CI)),kv (.int .i64 X),kv (.string ⟨#[]⟩),.val fun _=>True,kv (.int .i64 X)]
   [.none,.none,.none,.none,.base 0 1]
   [some 16,some 17,some 18,some 8,none,some 10]
   [(11,.pointer (some ⟨(w.heap.size+1+1+1+1+1),0,none⟩)),(12,.pointer (some ⟨(w.heap.size+1+1+1+1+1+1),0,none⟩)),(13,.int .i64 X),(9,.pointer (some ⟨(w.heap.size+1+1+1+1),0,none⟩))]
   [[],[],[],[.slot 0],[.slot 1,.base 0 0],[.slot 2]]
   [.base 0 1,.slot 3,.slot 5] [16,17,18,8,10]
   rfl (by kernel_rfl) ⟨rfl,rfl,rfl,rfl,trivial⟩ (Dl (Below.refl _ v0).drew) (Ac4 _) ⟨⟨g4.lt,Ao g4⟩,trivial⟩ ⟨trivial,trivial⟩ (GL (fun k hk=>by simpa using hk))
   ⟨
    (fun _ _ ww _ hS _ fr _=>sV (Au rfl fr.1 (Fz (HL0.out ww hS).at))),
    (fun _ _ ww _ hS _ fr _=>sV (BH rfl AW (HL1.out ww hS) fr.2.1)),
    sL fun f _=>sV (Ab rfl f.2.2.1),
    sL fun _ k=>sV (Az rfl k.1),
    sL fun f k=>.inl ⟨trivial,fun K hK=>Ed rfl AW (B8 _ _ _ _) f.2.2.2.1 k.1 (Ak k.2.1) (fun w2 hg ho=>hK _ _ ⟨⟨Ag ho,Ao hg⟩,trivial⟩)⟩,
    sL fun _ k=>sV (Az rfl k.1),
    trivial⟩ ?_
 intro vs own v9 hT1 hsz kn inj;clear inj hsz;have q0:SAt v9 (w.heap.size+1+1+1+1) 41 66 CI:=Ak kn.1;have e8:vs 8=_:=kn.2.1;have e10:vs 10=_:=kn.2.2.1;clear kn HL0 HL1;replace hB:Below w.heap.size w v9:=⟨hT1.os.trans hB.os,hT1.tape.trans hB.tape,hT1.output.trans hB.output,AcE hB.size hT1.size,fun k hk=>(hT1.block k (by have:=hB.size;omega) (by omega)).trans (hB.block k hk)⟩;simp only[Ap,Act.put,Ac6,Ac7,Ac5,e8,e10];go_wp2_with fail;exact bodyPost_ret (v:=.tuple #[.string ⟨#[]⟩,.agg (SC 66 CI),.int .i64 X]) (Hf results13 AW q0 (by rfl) (by rfl) (by rfl)) rfl ⟨rfl,hB⟩
theorem Hy(args:Array Value)(w:World):(callFunc 54 args).run prog w=.ok (.enter 54 args) w:=by kernel_rfl
theorem UB(b0 b1 b2 b3 b4:Nat)(O:Nat→Int)(h:Nat→Value)(S:Nat→Int)(m:ByteArray)(V:Nat→Value)(u:World)(hE:Env u)(c0:ArrAt u b0 .u8 22 32 O)(c1:SAt u b1 31 162 h)(c2:ArrAt u b2 .u8 22 32 S)(c3:CAt u b3 9 (.string m))(c4:SAt u b4 41 66 CI)(h1V:∀i,(V i).oneCell'=true)(hst:∀u,Env u→Calls prog 55 #[.agg (WA .u8 32 O),.agg (SC 162 h),.agg (WA .u8 32 S),.string m] u fun e w'=>e=.returned (.agg (SC 66 V))∧Below u.heap.size u w'):Calls prog 54 #[.pointer (some ⟨b0,0,none⟩),.pointer (some ⟨b1,0,none⟩),.pointer (some ⟨b2,0,none⟩),.pointer (some ⟨b3,0,none⟩),.pointer (some ⟨b4,0,none⟩)] u fun e w'=>e=.returned (.tuple #[])∧SAt w' b4 41 66 V∧Touch (fun x=>x=b4) u w':=by
 have touch_or0:∀{p q:World},Only b4 p q→Touch (fun x=>x=b4) p q:=fun o=>⟨o.os,o.tape,o.output,by rw[o.size];exact Ac4 _,fun k _ hn=>o.block k (fun h=>hn (by simp[h]))⟩
 have e3:=c3.at;go_enter func54,ntmps54
 go_wp2_with (first|(refine Aq Af c0 (by rfl) ?_)|(refine Aq Af c2 (by rfl) ?_)|(refine Ae rfl (BH rfl C7 c1 (by rfl)) ?_))
 refine(hst _ hE).mono ?_;rintro x v1 ⟨rfl,hb⟩;replace c4:=c4.kept hb;have ht:Touch (fun x=>x=b4) u v1:=Dl hb;clear hb
 go_wp2_with (refine Dw AW h1V c4 (by rfl) (by rfl) ?_;intro y0 d00 o0;refine Hid.out ?_)
 have d0:=Hid.mk d00;replace ht:=LY ht (touch_or0 o0);clear d00 o0;refine Hid.mk ?_;go_wp2_with fail;exact bodyPost_end (results_none rfl _ _ _) rfl ⟨rfl,d0.out,ht⟩
theorem UC(b0 b1 b2 b3 b4:Nat)(O:Nat→Int)(h:Nat→Value)(S:Nat→Int)(m:ByteArray)(X:Int)(u:World)(hE:Env u)(c0:ArrAt u b0 .u8 22 32 O)(c1:SAt u b1 31 162 h)(c2:ArrAt u b2 .u8 22 32 S)(c3:CAt u b3 9 (.string m))(hst:∀u,Env u→Calls prog 55 #[.agg (WA .u8 32 O),.agg (SC 162 h),.agg (WA .u8 32 S),.string m] u fun e w'=>e=gup X∧Below u.heap.size u w'):Calls prog 54 #[.pointer (some ⟨b0,0,none⟩),.pointer (some ⟨b1,0,none⟩),.pointer (some ⟨b2,0,none⟩),.pointer (some ⟨b3,0,none⟩),.pointer (some ⟨b4,0,none⟩)] u fun e w'=>e=gup X∧Below u.heap.size u w':=by
 have e3:=c3.at;go_enter func54,ntmps54
 go_wp2_with (first|(refine Aq Af c0 (by rfl) ?_)|(refine Aq Af c2 (by rfl) ?_)|(refine Ae rfl (BH rfl C7 c1 (by rfl)) ?_))
 refine(hst _ hE).mono ?_;rintro x v1 ⟨rfl,hb⟩;exact⟨rfl,rfl,hb⟩
set_option linter.unusedVariables false in
theorem UD(O:Nat→Int)(h:Nat→Value)(S:Nat→Int)(m:ByteArray)(V:Nat→Value)(w:World)(hE:Env w)(h1V:∀i,(V i).oneCell'=true)(hst:∀u,Env u→Calls prog 55 #[.agg (WA .u8 32 O),.agg (SC 162 h),.agg (WA .u8 32 S),.string m] u fun e w'=>e=.returned (.agg (SC 66 V))∧Below u.heap.size u w'):Calls prog 15 #[.agg (WA .u8 32 O),.agg (SC 162 h),.agg (WA .u8 32 S),.string m] w fun e w'=>e=.returned (.tuple #[.agg (SC 66 V),.int .i64 0])∧Below w.heap.size w w':=by
 obtain⟨W,hW⟩:∃W,W=((((((w.alloc (.cells (WA .u8 32 O) 22)).alloc (.cells (SC 162 h) 31)).alloc (.cells (WA .u8 32 S) 22)).alloc (.cells #[.string m] 9)).alloc (.cells zeroCells41 41)).alloc (.cells zeroCells41 41)):=⟨_,rfl⟩;have hB:Below w.heap.size w W:=by rw[hW];exact((((((Below.refl _ w).alloc (by simp) _).alloc (by simp) _).alloc (by simp;omega) _).alloc (by simp;omega) _).alloc (by simp;omega) _).alloc (by simp;omega) _
 have g0:ArrAt W w.heap.size .u8 22 32 O:=by rw[hW];exact Ac _ (Ac _ (Ac _ (Ac _ (Ac _ (As _ _ _ (by simp))))))
 have g1:SAt W (w.heap.size+1) 31 162 h:=by rw[hW];exact Ac _ (Ac _ (Ac _ (Ac _ (As _ _ _ (by simp)))))
 have g2:ArrAt W (w.heap.size+1+1) .u8 22 32 S:=by rw[hW];exact Ac _ (Ac _ (Ac _ (As _ _ _ (by simp))))
 have g3:CAt W (w.heap.size+1+1+1) 9 (.string m):=by rw[hW];exact Ac _ (Ac _ (As _ _ _ (by simp)))
 have g4:SAt W (w.heap.size+1+1+1+1) 41 66 CI:=by
  unfold SAt;rw[hW,←CP];exact Ac _ (As _ _ _ (by simp))
 have g5:SAt W (w.heap.size+1+1+1+1+1) 41 66 CI:=by
  unfold SAt;rw[hW,←CP];exact As _ _ _ (by simp)
 replace hE:=hE.kept hB;have hss:W.heap.size=w.heap.size+1+1+1+1+1+1:=by rw[hW];simp
 have hAt:=DC 54 #[.pointer (some ⟨w.heap.size,0,none⟩),.pointer (some ⟨(w.heap.size+1),0,none⟩),.pointer (some ⟨(w.heap.size+1+1),0,none⟩),.pointer (some ⟨(w.heap.size+1+1+1),0,none⟩),.pointer (some ⟨(w.heap.size+1+1+1+1+1),0,none⟩)] (fun x=>x=(w.heap.size+1+1+1+1+1)) (fun x v=>x=0∧SAt v (w.heap.size+1+1+1+1+1) 41 66 V) W Hy (fun x hx=>by omega) (fun u hu=>by
  refine((UB w.heap.size (w.heap.size+1) (w.heap.size+1+1) (w.heap.size+1+1+1) (w.heap.size+1+1+1+1+1) O h S m V u (hE.kept hu) (g0.kept hu) (g1.kept hu) (g2.kept hu) (g3.kept hu) (g5.kept hu) h1V  hst).mono ?_);rintro e v ⟨rfl,p0,ht⟩;exact⟨ht,0,.inl ⟨rfl,rfl⟩,rfl,p0⟩)
 have hmf:∀(fn:Fn) (first cap:Array Value) (w:World),(Instr.makeFunc fn first cap).run prog w=.ok (.func fn first cap) w:=fun _ _ _ _=>rfl
 subst hW;go_enter func15,ntmps15;go_wp2_with fail;refine hAt.mono ?_;rintro e v0 ⟨x,vc,rfl,⟨hx,p0⟩,tT,hb⟩;have hx':=hx.symm;clear hx;subst hx';clear hAt hmf;replace p0:=p0.block (hb.block (w.heap.size+1+1+1+1+1) (by omega));replace g4:=g4.block (tT.block (w.heap.size+1+1+1+1) g4.lt (by omega));replace hB:Below w.heap.size w v0:=⟨tT.os.trans hB.os,tT.tape.trans hB.tape,tT.output.trans hB.output,AcE hB.size tT.size,fun k hk=>(tT.block k (by have:=hB.size;omega) (by omega)).trans (hB.block k hk)⟩;clear tT hb hss g0 g1 g2 g3 g5 hE
 go_wp2_with (first|(refine Ae rfl (BH rfl AW p0 (by rfl)) ?_)|(refine Dw AW h1V g4 (by rfl) (by rfl) ?_;intro v9 q0 o9;refine Hid.out ?_))
 refine Hid.mk ?_;go_wp2_with fail;exact bodyPost_ret (v:=.tuple #[.agg (SC 66 V),.int .i64 0]) (Gi results15 AW q0 (by rfl) (by rfl)) rfl ⟨rfl,hB.trans (o9.below (by omega))⟩
set_option linter.unusedVariables false in
theorem UE(O:Nat→Int)(h:Nat→Value)(S:Nat→Int)(m:ByteArray)(X:Int)(w:World)(hE:Env w)(hst:∀u,Env u→Calls prog 55 #[.agg (WA .u8 32 O),.agg (SC 162 h),.agg (WA .u8 32 S),.string m] u fun e w'=>e=gup X∧Below u.heap.size u w'):Calls prog 15 #[.agg (WA .u8 32 O),.agg (SC 162 h),.agg (WA .u8 32 S),.string m] w fun e w'=>e=.returned (.tuple #[.agg (SC 66 CI),.int .i64 X])∧Below w.heap.size w w':=by
 obtain⟨W,hW⟩:∃W,W=((((((w.alloc (.cells (WA .u8 32 O) 22)).alloc (.cells (SC 162 h) 31)).alloc (.cells (WA .u8 32 S) 22)).alloc (.cells #[.string m] 9)).alloc (.cells zeroCells41 41)).alloc (.cells zeroCells41 41)):=⟨_,rfl⟩;have hB:Below w.heap.size w W:=by rw[hW];exact((((((Below.refl _ w).alloc (by simp) _).alloc (by simp) _).alloc (by simp;omega) _).alloc (by simp;omega) _).alloc (by simp;omega) _).alloc (by simp;omega) _
 have g0:ArrAt W w.heap.size .u8 22 32 O:=by rw[hW];exact Ac _ (Ac _ (Ac _ (Ac _ (Ac _ (As _ _ _ (by simp))))))
 have g1:SAt W (w.heap.size+1) 31 162 h:=by rw[hW];exact Ac _ (Ac _ (Ac _ (Ac _ (As _ _ _ (by simp)))))
 have g2:ArrAt W (w.heap.size+1+1) .u8 22 32 S:=by rw[hW];exact Ac _ (Ac _ (Ac _ (As _ _ _ (by simp))))
 have g3:CAt W (w.heap.size+1+1+1) 9 (.string m):=by rw[hW];exact Ac _ (Ac _ (As _ _ _ (by simp)))
 have g4:SAt W (w.heap.size+1+1+1+1) 41 66 CI:=by
  unfold SAt;rw[hW,←CP];exact Ac _ (As _ _ _ (by simp))
 have g5:SAt W (w.heap.size+1+1+1+1+1) 41 66 CI:=by
  unfold SAt;rw[hW,←CP];exact As _ _ _ (by simp)
 replace hE:=hE.kept hB;have hss:W.heap.size=w.heap.size+1+1+1+1+1+1:=by rw[hW];simp
 have hAt:=DC 54 #[.pointer (some ⟨w.heap.size,0,none⟩),.pointer (some ⟨(w.heap.size+1),0,none⟩),.pointer (some ⟨(w.heap.size+1+1),0,none⟩),.pointer (some ⟨(w.heap.size+1+1+1),0,none⟩),.pointer (some ⟨(w.heap.size+1+1+1+1+1),0,none⟩)] (fun x=>x=(w.heap.size+1+1+1+1+1)) (fun x v=>x=X∧SAt v (w.heap.size+1+1+1+1+1) 41 66 CI) W Hy (fun x hx=>by omega) (fun u hu=>by
  refine((UC w.heap.size (w.heap.size+1) (w.heap.size+1+1) (w.heap.size+1+1+1) (w.heap.size+1+1+1+1+1) O h S m X u (hE.kept hu) (g0.kept hu) (g1.kept hu) (g2.kept hu) (g3.kept hu) hst).mono ?_);rintro e v ⟨rfl,hb⟩;exact⟨Dl hb,X,.inr rfl,rfl,(g5.kept hu).kept hb⟩)
 have hmf:∀(fn:Fn) (first cap:Array Value) (w:World),(Instr.makeFunc fn first cap).run prog w=.ok (.func fn first cap) w:=fun _ _ _ _=>rfl
 subst hW;go_enter func15,ntmps15;go_wp2_with fail;refine hAt.mono ?_;rintro e v0 ⟨x,vc,rfl,⟨hx,p0⟩,tT,hb⟩;have hx':=hx.symm;clear hx;subst hx';clear hAt hmf;replace p0:=p0.block (hb.block (w.heap.size+1+1+1+1+1) (by omega));replace g4:=g4.block (tT.block (w.heap.size+1+1+1+1) g4.lt (by omega));replace hB:Below w.heap.size w v0:=⟨tT.os.trans hB.os,tT.tape.trans hB.tape,tT.output.trans hB.output,AcE hB.size tT.size,fun k hk=>(tT.block k (by have:=hB.size;omega) (by omega)).trans (hB.block k hk)⟩;clear tT hb hss g0 g1 g2 g3 g5 hE
 go_wp2_with (first|(refine Ae rfl (BH rfl AW p0 (by rfl)) ?_)|(refine Dw AW (B8 _ _ _ _) g4 (by rfl) (by rfl) ?_;intro v9 q0 o9;refine Hid.out ?_))
 refine Hid.mk ?_;go_wp2_with fail;exact bodyPost_ret (v:=.tuple #[.agg (SC 66 CI),.int .i64 X]) (Gi results15 AW q0 (by rfl) (by rfl)) rfl ⟨rfl,hB.trans (o9.below (by omega))⟩
theorem Ra(args:Array Value)(w:World):(callFunc 82 args).run prog w=.ok (.enter 82 args) w:=by kernel_rfl
theorem UF(args:Array Value)(w:World):(callFunc 95 args).run prog w=.ok (.enter 95 args) w:=by kernel_rfl
theorem Aai(w:World):(zeroValue 129).run prog w=.ok (.agg (SC 35 LW)) w:=by kernel_rfl
theorem UG{ops:Array Oper}{rest:List Oper}{d:Option Tmp}{t:TypeId}{ps:String}{af:Array Edge}{a:Act}{w:World}{Q:Exit→Act→World→Prop}(h:∀w',SAt w' w.heap.size 129 35 LW→Below w.heap.size w w'→wpList prog ops Q rest (a.put d (.pointer (some ⟨w.heap.size,0,none⟩))) w'):wpList prog ops Q ({ dst:=d,op:=.alloc 129,type:=t,pos:=ps,after:=af,guard:=none }::rest) a w:=
 CF rfl (AU Aai rfl (fun w' hb hg=>h w' hg hb))
theorem Acj{fi:FuncId}(hc:∀args w,(callFunc fi args).run prog w=.ok (.enter fi args) w){xs:Array Operand}{ts:Array TypeId}{o:Oper}{a:Act}{w:World}{J:Act→World→Prop}{Q:Exit→Act→World→Prop}(ho:o.op=.call { callee:=.value (.func fi),args:=xs,argTypes:=ts }){vs:Array Value}{v:Value}{b:Nat}{H C K:Nat→Int}(hx:xs.map a.eval=vs)(hC:Calls prog fi vs w fun r w'=>r=.returned v∧KtAt w' b H C K∧Touch (fun x=>x=b) w w')(h:∀w',KtAt w' b H C K→Touch (fun x=>x=b) w w'→J (a.put o.dst v) w'):o.wp prog a w J Q:=
 JJ hc ho hx (hC.mono (fun e w' ⟨he,hb⟩=>⟨v,he,rfl,hb⟩)) (R:=fun u w'=>u=v∧KtAt w' b H C K∧Touch (fun x=>x=b) w w') (fun u w' ⟨hu,h1,h2⟩=>by subst hu;exact h w' h1 h2)
theorem Ng{ops:Array Oper}{rest:List Oper}{d e:Option Tmp}{t t':TypeId}{ps ps':String}{af af':Array Edge}{a:Act}{w:World}{Q:Exit→Act→World→Prop}(h:∀w1 w2,w.heap.size<w1.heap.size→ArrAt w2 w.heap.size .u8 22 32 (fun _=>0)→ArrAt w2 w1.heap.size .u8 22 32 (fun _=>0)→Below w.heap.size w w1→Below w1.heap.size w1 w2→wpList prog ops Q rest ((a.put d (.pointer (some ⟨w.heap.size,0,none⟩))).put e (.pointer (some ⟨w1.heap.size,0,none⟩))) w2):wpList prog ops Q ({ dst:=d,op:=.alloc 22,type:=t,pos:=ps,after:=af,guard:=none }::{ dst:=e,op:=.alloc 22,type:=t',pos:=ps',after:=af',guard:=none }::rest) a w:=
 Ci (fun w1 g1 hb1=>Ci (fun w2 g2 hb2=>h w1 w2 g1.lt (g1.kept hb2) g2 hb1 hb2))
def Gj(H C R P S E:Nat→Int)(f ix:Int):Ending:=if shZ E R=true∧shZ E P=true then .returned (.tuple #[.string (Acf H C R P S E f ix),.agg (SC 66 (Da (anN C R P S E 1) (anN C R P S E 0) ix f))]) else gup 18
set_option linter.unusedVariables false in
theorem Rb(H C O R P S E:Nat→Int)(l f ix:Int)(w:World)(hE:Env w)(hH:Byts 32 H)(hC:Byts 32 C)(hR:Byts 32 R)(hP:Byts 32 P)(hS:Byts 32 S)(hEk:Byts 32 E):Calls prog 51 #[.agg (SC 162 (AY H C O R P l f)),.agg (WA .u8 32 S),.agg (WA .u8 32 E),.int .u32 ix] w fun e w'=>e=Gj H C R P S E f ix∧Below w.heap.size w w':=by
 have g0:SAt ((((w.alloc (.cells (SC 162 (AY H C O R P l f)) 31)).alloc (.cells (WA .u8 32 S) 22)).alloc (.cells (WA .u8 32 E) 22)).alloc (.cells zeroCells41 41)) w.heap.size 31 162 (AY H C O R P l f):=SAt.kept (AA w _ _ _) ((Below.refl _ _).alloc (Ac4 _) _);have g1:ArrAt ((((w.alloc (.cells (SC 162 (AY H C O R P l f)) 31)).alloc (.cells (WA .u8 32 S) 22)).alloc (.cells (WA .u8 32 E) 22)).alloc (.cells zeroCells41 41)) (w.heap.size+1) .u8 22 32 S:=ArrAt.kept (AG w _ _ _) ((Below.refl _ _).alloc (Ac4 _) _);have g2:ArrAt ((((w.alloc (.cells (SC 162 (AY H C O R P l f)) 31)).alloc (.cells (WA .u8 32 S) 22)).alloc (.cells (WA .u8 32 E) 22)).alloc (.cells zeroCells41 41)) (w.heap.size+1+1) .u8 22 32 E:=ArrAt.kept (AP w _ _ _) ((Below.refl _ _).alloc (Ac4 _) _)
 have gP:SAt ((((w.alloc (.cells (SC 162 (AY H C O R P l f)) 31)).alloc (.cells (WA .u8 32 S) 22)).alloc (.cells (WA .u8 32 E) 22)).alloc (.cells zeroCells41 41)) (w.heap.size+1+1+1) 41 66 CI:=by
  have h:=E4 w (.cells (SC 162 (AY H C O R P l f)) 31) (.cells (WA .u8 32 S) 22) (.cells (WA .u8 32 E) 22) (.cells zeroCells41 41);unfold SAt;rw[←CP];exact h
 have hB:Below w.heap.size w ((((w.alloc (.cells (SC 162 (AY H C O R P l f)) 31)).alloc (.cells (WA .u8 32 S) 22)).alloc (.cells (WA .u8 32 E) 22)).alloc (.cells zeroCells41 41)):=((((Below.refl _ w).alloc (by simp) _).alloc (by simp) _).alloc (by simp;omega) _).alloc (by simp;omega) _;replace hE:=hE.kept hB;have hmf:∀(fn:Fn) (first cap:Array Value) (w:World),(Instr.makeFunc fn first cap).run prog w=.ok (.func fn first cap) w:=fun _ _ _ _=>rfl
 have HP:=Hid.mk hE.2;go_enter func51,ntmps51
 go_wp2_with (refine Aq Af g2 (by rfl) ?_)
 refine(Ir E _ HP.out hEk).mono ?_;rintro x v1 ⟨rfl,hb⟩;replace g0:=g0.kept hb;replace g1:=g1.kept hb;replace g2:=g2.kept hb;replace gP:=gP.kept hb;replace hE:=hE.kept hb;replace hB:=hB.trans (hb.mono hB.size);clear hb;clear HP;have lag0:=g0.lt;have lag1:=g1.lt;have lag2:=g2.lt;have lagP:=gP.lt;have laB:=hB.size;have laE:=hE.two
 go_wp2_with (refine Ci ?_;intro v2a ge0 hb;refine Hid.out ?_)
 replace g0:=g0.kept hb;replace g1:=g1.kept hb;replace g2:=g2.kept hb;replace gP:=gP.kept hb;replace hE:=hE.kept hb;replace hB:=hB.trans (hb.mono hB.size);clear hb;refine Hid.mk ?_
 go_wp2_with (refine A0 Af ge0 (by rfl) (by rfl) ?_;intro v2b ge o6;refine Hid.out ?_)
 replace g0:=g0.only o6 (by omega);replace g1:=g1.only o6 (by omega);replace g2:=g2.only o6 (by omega);replace gP:=gP.only o6 (by omega);replace hE:=hE.only o6 (by omega);replace hB:=hB.trans (o6.below (by omega));clear o6;clear ge0;refine Hid.mk ?_;have lbg0:=g0.lt;have lbg1:=g1.lt;have lbg2:=g2.lt;have lbgP:=gP.lt;have lbge:=ge.lt;have lbB:=hB.size;have lbE:=hE.two
 go_wp2_with (refine Ae rfl (BH rfl C7 g0 (by rfl)) ?_)
 refine(Ke H C O R P l f _).mono ?_;rintro x v3 ⟨b,hbb,rfl,g,hb⟩;have hb3:3≤b:=by omega
 have hbS:w.heap.size≤b:=by omega
 replace g0:=g0.kept hb;replace g1:=g1.kept hb;replace g2:=g2.kept hb;replace gP:=gP.kept hb;replace ge:=ge.kept hb;replace hE:=hE.kept hb;replace hB:=hB.trans (hb.mono hB.size);clear hb
 go_wp2_with (refine Aq Af ge (by rfl) ?_)
 refine(Ew b H C _ (BV E) _ hE hb3 g hH hC (Iq E 32)).mono ?_;rintro x v4 ⟨rfl,g',t1⟩;replace g0:=g0.tou t1 (by omega);replace g1:=g1.tou t1 (by omega);replace g2:=g2.tou t1 (by omega);replace gP:=gP.tou t1 (by omega);replace ge:=ge.tou t1 (by omega);replace hE:=hE.touch t1 hb3;replace hB:=Br hB t1 hbS (Ac4 _);clear t1;clear g;have g:=g';clear g';obtain⟨et,hete⟩:∃X,mkS 32 (BV E)=X:=⟨_,rfl⟩;rw[hete] at g;obtain⟨H1,hH1e⟩:∃X,Dk H et=X:=⟨_,rfl⟩;have hH1:Byts 32 H1:=hH1e▸EX _ _ 32;obtain⟨C1,hC1e⟩:∃X,chn C et 0=X:=⟨_,rfl⟩;have hC1:Byts 32 C1:=hC1e▸Ex _ _ 0 32;rw[hH1e,hC1e] at g;have hr:=Aad g0
 go_wp2_with (first|(refine Aq Af g2 (by rfl) ?_)|(refine Ae rfl (Al rfl Af (by rfl) hr) ?_))
 by_cases hz1:shZ E R=true
 case neg =>
  refine(EL _ E R _ hE hEk hR (by simpa using hz1)).mono ?_;rintro x v9 ⟨rfl,hb⟩;exact⟨rfl,(by unfold Gj;rw[if_neg (fun h=>hz1 h.1)]:Gj H C R P S E f ix=gup 18).symm,hB.trans (hb.mono hB.size)⟩
 refine(D0 b H1 C1 _ E R _ hE g hC1 hEk hR hz1).mono ?_;rintro x v5 ⟨rfl,g',t1⟩;replace g0:=g0.tou t1 (by omega);replace g1:=g1.tou t1 (by omega);replace g2:=g2.tou t1 (by omega);replace gP:=gP.tou t1 (by omega);replace ge:=ge.tou t1 (by omega);replace hE:=hE.touch t1 hb3;replace hB:=Br hB t1 hbS (Ac4 _);clear t1;clear g hr;have g:=g';clear g';obtain⟨C2,hC2e⟩:∃X,chn C1 (mkS 32 (shF E R)) 0=X:=⟨_,rfl⟩;have hC2:Byts 32 C2:=hC2e▸Ex _ _ 0 32;rw[hC2e] at g;have hr:=Aae g0
 go_wp2_with (first|(refine Aq Af g2 (by rfl) ?_)|(refine Ae rfl (Al rfl Af (by rfl) hr) ?_))
 by_cases hz2:shZ E P=true
 case neg =>
  refine(EL _ E P _ hE hEk hP (by simpa using hz2)).mono ?_;rintro x v9 ⟨rfl,hb⟩;exact⟨rfl,(by unfold Gj;rw[if_neg (fun h=>hz2 h.2)]:Gj H C R P S E f ix=gup 18).symm,hB.trans (hb.mono hB.size)⟩
 refine(D0 b H1 C2 _ E P _ hE g hC2 hEk hP hz2).mono ?_;rintro x v6 ⟨rfl,g',t1⟩;replace g0:=g0.tou t1 (by omega);replace g1:=g1.tou t1 (by omega);replace g2:=g2.tou t1 (by omega);replace gP:=gP.tou t1 (by omega);replace ge:=ge.tou t1 (by omega);replace hE:=hE.touch t1 hb3;replace hB:=Br hB t1 hbS (Ac4 _);clear t1;clear g hr;have g:=g';clear g';obtain⟨C3,hC3e⟩:∃X,chn C2 (mkS 32 (shF E P)) 0=X:=⟨_,rfl⟩;have hC3:Byts 32 C3:=hC3e▸Ex _ _ 0 32;rw[hC3e] at g
 go_wp2_with (refine Aq Af g1 (by rfl) ?_)
 refine(Kg b H1 C3 _ S _ hE hb3 g hH1 hC3 hS).mono ?_;rintro x v7 ⟨rfl,g',t1⟩;replace g0:=g0.tou t1 (by omega);replace g1:=g1.tou t1 (by omega);replace g2:=g2.tou t1 (by omega);replace gP:=gP.tou t1 (by omega);replace ge:=ge.tou t1 (by omega);replace hE:=hE.touch t1 hb3;replace hB:=Br hB t1 hbS (Ac4 _);clear t1;clear g;have g:=g';clear g';obtain⟨L,hLe⟩:∃X,chn C3 (mkS 32 S)=X:=⟨_,rfl⟩;have hL:∀i,Byts 32 (L i):=fun i=>hLe▸Ex _ _ i 32
 rw[hLe] at g;obtain⟨H2,hH2e⟩:∃X,Dk H1 (mkS 32 (L 1))=X:=⟨_,rfl⟩;have hH2:Byts 32 H2:=hH2e▸EX _ _ 32;rw[hH2e] at g;go_wp2_with fail;have hSE:=fun u gu (hu:Env u)=>LU b H2 (L 0) (L 2) ⟨#[]⟩ u hu hb3 gu hH2 (hL 2) (of_decide_eq_true rfl)
 obtain⟨Z,hZ⟩:∃X,Et (L 2) Cu ⟨#[]⟩ (mkS 32 H2)=X:=⟨_,rfl⟩;have hZs:Z.size≤48:=by rw[←hZ,EI];exact of_decide_eq_true rfl
 rw[hZ] at hSE;obtain⟨H3,hH3e⟩:∃X,Dk H2 Z=X:=⟨_,rfl⟩;rw[hH3e] at hSE;have HSE:=Hid.mk hSE;have HEN:Hid (∀u,Touch (fun x=>x=b) v7 u→Env u):=Hid.mk (fun u hu=>hE.touch hu hb3);have HG0:Hid (∀u,Touch (fun x=>x=b) v7 u→SAt u w.heap.size 31 162 (AY H C O R P l f)):=Hid.mk (fun u hu=>g0.tou hu (by omega));have HGE:Hid (∀u,Touch (fun x=>x=b) v7 u→ArrAt u v1.heap.size .u8 22 32 (BV E)):=Hid.mk (fun u hu=>ge.tou hu (by omega));have hgl:=g.lt;refine Ai (Touch (fun x=>x=b) v7) v7.heap.size
   [(b,once (WA .u8 96 (ktF H2 (L 0) (L 2))) 121 5 (WA .u8 96 (ktF H3 (L 0) (L 2))))]
   [kv (.int .u32 ix),kv (.pointer (some ⟨w.heap.size,161,none⟩)),kv (.int .u32 f),kv (.agg (WA .u8 32 (BV E))),kv (.pointer (some ⟨b,0,none⟩)),kv (.string Z),kv (.agg (SC 35 (Fg ix f (BV E) Z))),kp (SC 35 LW) 129 8 (SC 35 (Fg ix f (BV E) Z)),.val fun _=>True]
   [.none,.none,.none,.none,.none,.base 0 1,.none,.none,.own 7 1]
   [some 37,some 38,some 39,some 40,some 41,some 42,some 43,some 12,none]
   [(3,.int .u32 ix),(4,.pointer (some ⟨w.heap.size,0,none⟩)),(10,.pointer (some ⟨v1.heap.size,0,none⟩)),(11,.pointer (some ⟨b,0,none⟩))]
   [[],[],[.slot 1],[],[],[.slot 4,.base 0 0],[.slot 0,.slot 2,.slot 3,.slot 5],[],[.slot 7,.cont 7 0,.slot 6]]
   [.base 0 1,.slot 7,.cont 7 1] [37,38,39,40,41,42,43,12]
   rfl (by kernel_rfl) ⟨rfl,rfl,rfl,rfl,trivial⟩ (CZ b (Below.refl _ v7).drew) (Ac4 _) ⟨⟨g.lt,Ao g⟩,trivial⟩ ⟨trivial,trivial⟩ Fq
   ⟨
    sL fun f _=>sV (Ab rfl f.1),
    sL fun f _=>sV (Je rfl f.2.1),
    (fun _ _ ww _ hS _ _ kn=>sV (Au rfl kn.1 (BT (Sa (HG0.out ww hS))))),
    (fun _ _ ww _ hS _ fr _=>sV (Bg rfl Af (HGE.out ww hS) fr.2.2.1)),
    sL fun f _=>sV (Ab rfl f.2.2.2.1),
    (fun _ _ ww _ hS _ _ kn=>.inl ⟨trivial,fun K hK=>Acj Ra rfl (CC kn.1 rfl) (HSE.out ww (Ak kn.2.1) (HEN.out ww hS)) (fun w' hg ht=>hK _ _ ⟨⟨ht,Ao hg⟩,rfl⟩)⟩),
    sL fun _ k=>sV (Nc rfl k.1 k.2.1 k.2.2.1 k.2.2.2.1),
    sL fun _ _=>.inl ⟨trivial,fun K hK=>AU Aai rfl (fun w' hb hg=>hK _ _ ⟨Ad hb,_,Ac4 _,rfl,Ao hg⟩)⟩,
    sL fun _ k=>.inl ⟨trivial,fun K hK=>Ed rfl LX (LV _ _ _ _) k.1.1 k.2.2.1 (Ak k.2.1) (fun w2 hg ho=>hK _ _ ⟨Ag ho,Ao hg,trivial⟩)⟩,
    trivial⟩ ?_
 intro vs own v8 t1 hsz kn inj;clear inj hsz HSE HEN HG0 HGE hSE;obtain⟨k1,k2,k3,-⟩:=kn;have g':KtAt v8 b H3 (L 0) (L 2):=Ak k1;obtain⟨e12,hb12,_⟩:=k2;change vs 12=_ at e12;have gr:SAt v8 (own 7) 129 35 (Fg ix f (BV E) Z):=Ak k3;clear k1 k3;replace g0:=g0.tou t1 (by omega);replace g1:=g1.tou t1 (by omega);replace g2:=g2.tou t1 (by omega);replace gP:=gP.tou t1 (by omega);replace ge:=ge.tou t1 (by omega);replace hE:=hE.touch t1 hb3;replace hB:=Br hB t1 hbS (Ac4 _);clear t1;clear g;have g:=g';clear g';simp only[Ap,Act.put,Ac6,Ac7,Ac5,e12];generalize own 7=br at *;have hbr:b<br:=by omega
 clear e12 hb12;go_wp2_with fail;refine(P9 b _ (L 0) _ _ hE g (hL 0)).mono ?_;rintro x v9 ⟨rfl,hb⟩;replace g0:=g0.kept hb;replace g1:=g1.kept hb;replace g2:=g2.kept hb;replace gP:=gP.kept hb;replace ge:=ge.kept hb;replace gr:=gr.kept hb;replace g:=g.kept hb;replace hE:=hE.kept hb;replace hB:=hB.trans (hb.mono hB.size);clear hb;obtain⟨N,hNe⟩:∃X,chn (L 0) ⟨#[]⟩=X:=⟨_,rfl⟩;rw[hNe];have lcg0:=g0.lt;have lcg1:=g1.lt;have lcg2:=g2.lt;have lcgP:=gP.lt;have lcge:=ge.lt;have lcgr:=gr.lt;have lcg:=g.lt;have lcB:=hB.size;have lcE:=hE.two
 go_wp2_with (refine Ng ?_;intro v9a v9b c7 n00 n10 hb hbB;refine Hid.out ?_)
 have c5:=hb.size;replace g0:=g0.kept hb;replace g1:=g1.kept hb;replace g2:=g2.kept hb;replace gP:=gP.kept hb;replace ge:=ge.kept hb;replace gr:=gr.kept hb;replace g:=g.kept hb;replace hE:=hE.kept hb;replace hB:=hB.trans (hb.mono hB.size);clear hb;have c1:=g.lt;have c6:=hB.size;replace g0:=g0.kept hbB;replace g1:=g1.kept hbB;replace g2:=g2.kept hbB;replace gP:=gP.kept hbB;replace ge:=ge.kept hbB;replace gr:=gr.kept hbB;replace g:=g.kept hbB;replace hE:=hE.kept hbB;replace hB:=hB.trans (hbB.mono hB.size);clear hbB;refine Hid.mk ?_
 go_wp2_with (refine A0 Af n00 (by rfl) (by rfl) ?_;intro v9c n0 o6;refine Hid.out ?_)
 replace n10:=n10.only o6 (by omega);replace g0:=g0.only o6 (by omega);replace g1:=g1.only o6 (by omega);replace g2:=g2.only o6 (by omega);replace gP:=gP.only o6 (by omega);replace ge:=ge.only o6 (by omega);replace gr:=gr.only o6 (by omega);replace g:=g.only o6 (by omega);replace hE:=hE.only o6 (by omega);replace hB:=hB.trans (o6.below (by omega));clear o6;clear n00;refine Hid.mk ?_
 go_wp2_with (refine A0 Af n10 (by rfl) (by rfl) ?_;intro v9d n1 o6;refine Hid.out ?_)
 replace n0:=n0.only o6 (by omega);replace g0:=g0.only o6 (by omega);replace g1:=g1.only o6 (by omega);replace g2:=g2.only o6 (by omega);replace gP:=gP.only o6 (by omega);replace ge:=ge.only o6 (by omega);replace gr:=gr.only o6 (by omega);replace g:=g.only o6 (by omega);replace hE:=hE.only o6 (by omega);replace hB:=hB.trans (o6.below (by omega));clear o6;clear n10;refine Hid.mk ?_;go_wp2_with fail;have lzg0:=g0.lt;have lzg1:=g1.lt;have lzg2:=g2.lt;have lzgP:=gP.lt;have lzge:=ge.lt;have lzgr:=gr.lt;have lzg:=g.lt;have lzB:=hB.size;have lzE:=hE.two;have HR:Hid (∀u,Touch (fun x=>x=(w.heap.size+1+1+1)) v9d u→SAt u br 129 35 (Fg ix f (BV E) Z)):=Hid.mk (fun u hu=>gr.tou hu (by omega));have HN0:Hid (∀u,Touch (fun x=>x=(w.heap.size+1+1+1)) v9d u→ArrAt u v9.heap.size .u8 22 32 (N 0)):=Hid.mk (fun u hu=>n0.tou hu (by omega));have HN1:Hid (∀u,Touch (fun x=>x=(w.heap.size+1+1+1)) v9d u→ArrAt u v9a.heap.size .u8 22 32 (N 1)):=Hid.mk (fun u hu=>n1.tou hu (by omega));have HG0:Hid (∀u,Touch (fun x=>x=(w.heap.size+1+1+1)) v9d u→SAt u w.heap.size 31 162 (AY H C O R P l f)):=Hid.mk (fun u hu=>g0.tou hu (by omega));have HTX:=Hid.mk (XM ix f (BV E) Z (Iq E 32) (by omega));refine Ai (Touch (fun x=>x=(w.heap.size+1+1+1)) v9d) v9d.heap.size
   [((w.heap.size+1+1+1),once (SC 66 CI) 41 9 (SC 66 (Da (N 1) (N 0) ix f)))]
   [kv (.agg (SC 35 (Fg ix f (BV E) Z))),kv (.string (⟨#[2,0,0,0]⟩++A3 ix++A3 f++mkS 32 (BV E)++Z)),kv (.agg (WA .u8 32 (N 1))),kv (.agg (WA .u8 32 (N 0))),kv (.int .u32 ix),kv (.pointer (some ⟨w.heap.size,161,none⟩)),kv (.int .u32 f),kv (.agg (SC 66 (Da (N 1) (N 0) ix f))),kv (.string (⟨#[2,0,0,0]⟩++A3 ix++A3 f++mkS 32 (BV E)++Z)),.val fun _=>True]
   [.none,.none,.none,.none,.none,.none,.none,.none,.none,.base 0 1]
   [some 49,some 50,some 51,some 52,some 53,some 54,some 55,some 56,some 8,none]
   [(12,.pointer (some ⟨br,0,none⟩)),(14,.pointer (some ⟨v9a.heap.size,0,none⟩)),(13,.pointer (some ⟨v9.heap.size,0,none⟩)),(3,.int .u32 ix),(4,.pointer (some ⟨w.heap.size,0,none⟩)),(9,.pointer (some ⟨(w.heap.size+1+1+1),0,none⟩))]
   [[],[.slot 0],[],[],[],[],[.slot 5],[.slot 2,.slot 3,.slot 4,.slot 6],[.slot 1],[.slot 7,.base 0 0]]
   [.base 0 1,.slot 8] [49,50,51,52,53,54,55,56,8]
   rfl (by kernel_rfl) ⟨rfl,rfl,rfl,rfl,rfl,rfl,trivial⟩ (CZ (w.heap.size+1+1+1) (Below.refl _ v9d).drew) (Ac4 _) ⟨⟨gP.lt,Ao gP⟩,trivial⟩ ⟨trivial,trivial⟩ Fq
   ⟨
    (fun _ _ ww _ hS _ fr _=>sV (BH rfl LX (HR.out ww hS) fr.1)),
    (fun _ _ ww _ _ _ _ kn=>.inl ⟨trivial,fun K hK=>AD UF rfl (BE kn.1) (HTX.out ww) (fun w' hb=>hK _ _ ⟨Ad hb,rfl⟩)⟩),
    (fun _ _ ww _ hS _ fr _=>sV (Bg rfl Af (HN1.out ww hS) fr.2.1)),
    (fun _ _ ww _ hS _ fr _=>sV (Bg rfl Af (HN0.out ww hS) fr.2.2.1)),
    sL fun f _=>sV (Ab rfl f.2.2.2.1),
    sL fun f _=>sV (Je rfl f.2.2.2.2.1),
    (fun _ _ ww _ hS _ _ kn=>sV (Au rfl kn.1 (BT (Sa (HG0.out ww hS))))),
    sL fun _ k=>sV (IV rfl k.1 k.2.1 k.2.2.1 k.2.2.2.1),
    sL fun _ k=>sV (Az rfl k.1),
    sL fun f k=>.inl ⟨trivial,fun K hK=>Ed rfl AW (B8 _ _ _ _) f.2.2.2.2.2.1 k.1 (Ak k.2.1) (fun w2 hg ho=>hK _ _ ⟨⟨Ag ho,Ao hg⟩,trivial⟩)⟩,
    trivial⟩ ?_
 intro vs own v10 hT1 hsz kn inj;clear inj hsz;have q0:SAt v10 (w.heap.size+1+1+1) 41 66 (Da (N 1) (N 0) ix f):=Ak kn.1;have e8:vs 8=_:=kn.2.1;clear kn HR HN0 HN1 HG0 HTX;replace hB:=Br hB hT1 (by omega) (Ac4 _);simp only[Ap,Act.put,Ac6,Ac7,Ac5,e8];go_wp2_with fail;refine bodyPost_ret (v:=.tuple #[.string (⟨#[2,0,0,0]⟩++A3 ix++A3 f++mkS 32 (BV E)++Z),.agg (SC 66 (Da (N 1) (N 0) ix f))]) (XQ results51 AW q0 (by rfl) (by rfl)) rfl ⟨?_,hB⟩;unfold Gj;rw[if_pos ⟨hz1,hz2⟩];have hbl:Hn C et (shF E R) (shF E P) S=L:=by simp only[Hn,hC1e,hC2e,hC3e,hLe]
 have hbh:Ml H C et (shF E R) (shF E P) S=H2:=by simp only[Ml,hbl,hH1e,hH2e]
 have hN2:chK (DL (mkS 32 (L 0)) ⟨#[]⟩)=N:=hNe;simp only[Acf,anB,anL,anH,anN,hete,hbl,hbh,hZ,hN2]
def Do(O H C A S:Nat→Int)(l:Int)(m:ByteArray):Ending:=if ¬(m.size=92∧C8 m 0 4=2) then gup (if m.size=92 then 11 else 10) else if ¬C8 m 8 4=l then gup 15 else
 if ¬(shZ A (fiE m)=true∧shZ O (fiE m)=true) then gup 18 else if ¬(fiT H C A O S m).2=0 then gup 13 else .returned (.agg (SC 66 (Da (fiN C A O S m 0) (fiN C A O S m 1) l (C8 m 4 4))))
set_option linter.unusedVariables false in
theorem Rc(O H C A R P S:Nat→Int)(l f:Int)(m:ByteArray)(w:World)(hE:Env w)(hO:Byts 32 O)(hH:Byts 32 H)(hC:Byts 32 C)(hA:Byts 32 A)(hS:Byts 32 S):Calls prog 55 #[.agg (WA .u8 32 O),.agg (SC 162 (AY H C A R P l f)),.agg (WA .u8 32 S),.string m] w fun e w'=>e=Do O H C A S l m∧Below w.heap.size w w':=by
 have g0:ArrAt ((((w.alloc (.cells (WA .u8 32 O) 22)).alloc (.cells (SC 162 (AY H C A R P l f)) 31)).alloc (.cells (WA .u8 32 S) 22)).alloc (.cells zeroCells41 41)) w.heap.size .u8 22 32 O:=ArrAt.kept (AA w _ _ _) ((Below.refl _ _).alloc (Ac4 _) _);have g1:SAt ((((w.alloc (.cells (WA .u8 32 O) 22)).alloc (.cells (SC 162 (AY H C A R P l f)) 31)).alloc (.cells (WA .u8 32 S) 22)).alloc (.cells zeroCells41 41)) (w.heap.size+1) 31 162 (AY H C A R P l f):=SAt.kept (AG w _ _ _) ((Below.refl _ _).alloc (Ac4 _) _);have g2:ArrAt ((((w.alloc (.cells (WA .u8 32 O) 22)).alloc (.cells (SC 162 (AY H C A R P l f)) 31)).alloc (.cells (WA .u8 32 S) 22)).alloc (.cells zeroCells41 41)) (w.heap.size+1+1) .u8 22 32 S:=ArrAt.kept (AP w _ _ _) ((Below.refl _ _).alloc (Ac4 _) _)
 have gP:SAt ((((w.alloc (.cells (WA .u8 32 O) 22)).alloc (.cells (SC 162 (AY H C A R P l f)) 31)).alloc (.cells (WA .u8 32 S) 22)).alloc (.cells zeroCells41 41)) (w.heap.size+1+1+1) 41 66 CI:=by
  have h:=E4 w (.cells (WA .u8 32 O) 22) (.cells (SC 162 (AY H C A R P l f)) 31) (.cells (WA .u8 32 S) 22) (.cells zeroCells41 41);unfold SAt;rw[←CP];exact h
 have hB:Below w.heap.size w ((((w.alloc (.cells (WA .u8 32 O) 22)).alloc (.cells (SC 162 (AY H C A R P l f)) 31)).alloc (.cells (WA .u8 32 S) 22)).alloc (.cells zeroCells41 41)):=((((Below.refl _ w).alloc (by simp) _).alloc (by simp) _).alloc (by simp;omega) _).alloc (by simp;omega) _;replace hE:=hE.kept hB;have hmf:∀(fn:Fn) (first cap:Array Value) (w:World),(Instr.makeFunc fn first cap).run prog w=.ok (.func fn first cap) w:=fun _ _ _ _=>rfl
 go_enter func55,ntmps55;go_wp2_with fail
 by_cases hf:m.size=92∧C8 m 0 4=2
 case neg =>
  refine(XP m _ hf).mono ?_;rintro x v1 ⟨rfl,hb⟩;exact⟨rfl,(by unfold Do;rw[if_pos hf]:Do O H C A S l m=gup (if m.size=92 then 11 else 10)).symm,hB.trans (hb.mono hB.size)⟩
 have hms:=hf.1;refine(XO m _ hf.1 hf.2).mono ?_;rintro x v1 ⟨rfl,hb⟩;replace g0:=g0.kept hb;replace g1:=g1.kept hb;replace g2:=g2.kept hb;replace gP:=gP.kept hb;replace hE:=hE.kept hb;replace hB:=hB.trans (hb.mono hB.size);clear hb;have hes:(m.extract 12 44).size=32:=by rw[ByteArray.size_extract];omega
 have hbs:(m.extract 44 60).size=16:=by rw[ByteArray.size_extract];omega
 obtain⟨E,hEe⟩:∃X,txt (m.extract 12 44)=X:=⟨_,rfl⟩;have hEb:Byts 32 E:=fun j _=>hEe▸B5 _ j
 have hem:mkS 32 E=m.extract 12 44:=by rw[←hEe,←hes];exact DZ _
 obtain⟨box,hbx⟩:∃X,m.extract 44 60=X:=⟨_,rfl⟩;obtain⟨n4,hn4⟩:∃X,C8 m 4 4=X:=⟨_,rfl⟩;obtain⟨n8,hn8⟩:∃X,C8 m 8 4=X:=⟨_,rfl⟩;rw[hEe,hbx,hn4,hn8];rw[hbx] at hbs;have lag0:=g0.lt;have lag1:=g1.lt;have lag2:=g2.lt;have lagP:=gP.lt;have laB:=hB.size;have laE:=hE.two
 go_wp2_with (refine UG ?_;intro v2 gi0 hb;refine Hid.out ?_)
 replace g0:=g0.kept hb;replace g1:=g1.kept hb;replace g2:=g2.kept hb;replace gP:=gP.kept hb;replace hE:=hE.kept hb;replace hB:=hB.trans (hb.mono hB.size);clear hb;refine Hid.mk ?_
 go_wp2_with (refine Dw LX (LV _ _ _ _) gi0 (by rfl) (by rfl) ?_;intro v3 gi o6;refine Hid.out ?_)
 replace g0:=g0.only o6 (by omega);replace g1:=g1.only o6 (by omega);replace g2:=g2.only o6 (by omega);replace gP:=gP.only o6 (by omega);replace hE:=hE.only o6 (by omega);replace hB:=hB.trans (o6.below (by omega));clear o6;clear gi0;refine Hid.mk ?_;obtain⟨bi,hbi⟩:∃bi,v1.heap.size=bi:=⟨_,rfl⟩;rw[hbi] at gi lag0 lag1 lag2 lagP laB laE ⊢;clear hbi;have hci:_:=gi.at 1 (by omega);replace hci:_=some (Value.int .u32 n8):=hci;have hcl:=RZ g1
 by_cases h8:n8=l
 case neg =>
  have hd:(n8==l)=false:=by simpa using h8
  go_wp2_with fail;refine(Jc 15 _).mono ?_;rintro x v9 ⟨rfl,rfl⟩;exact⟨rfl,(by unfold Do;rw[if_neg (not_not_intro hf),if_pos (fun h=>h8 (by rw[←hn8];exact h))]:Do O H C A S l m=gup 15).symm,hB⟩
 have hd:(n8==l)=true:=by simpa using h8
 go_wp2_with fail;refine(Gh 15 _).mono ?_;rintro x v4 ⟨rfl,rfl⟩;clear hci hcl hd;rw[←hn8] at h8;have lbg0:=g0.lt;have lbg1:=g1.lt;have lbg2:=g2.lt;have lbgP:=gP.lt;have lbgi:=gi.lt;have lbB:=hB.size;have lbE:=hE.two
 go_wp2_with (refine Ae rfl (BH rfl C7 g1 (by rfl)) ?_)
 refine(Ke H C A R P l f _).mono ?_;rintro x v5 ⟨b,hbb,rfl,g,hb⟩;have hb3:3≤b:=by omega
 have hbS:w.heap.size≤b:=by omega
 replace g0:=g0.kept hb;replace g1:=g1.kept hb;replace g2:=g2.kept hb;replace gP:=gP.kept hb;replace gi:=gi.kept hb;replace hE:=hE.kept hb;replace hB:=hB.trans (hb.mono hB.size);clear hb;have hre:=Si gi
 go_wp2_with (refine Ae rfl (Al rfl Af (by rfl) hre) ?_)
 refine(Ew b H C _ E _ hE hb3 g hH hC hEb).mono ?_;rintro x v6 ⟨rfl,g',t1⟩;replace g0:=g0.tou t1 (by omega);replace g1:=g1.tou t1 (by omega);replace g2:=g2.tou t1 (by omega);replace gP:=gP.tou t1 (by omega);replace gi:=gi.tou t1 (by omega);replace hE:=hE.touch t1 hb3;replace hB:=Br hB t1 hbS (Ac4 _);clear t1;clear g hre;have g:=g';clear g';obtain⟨et,hete⟩:∃X,m.extract 12 44=X:=⟨_,rfl⟩;rw[hem,hete] at g;obtain⟨H1,hH1e⟩:∃X,Dk H et=X:=⟨_,rfl⟩;have hH1:Byts 32 H1:=hH1e▸EX _ _ 32;obtain⟨C1,hC1e⟩:∃X,chn C et 0=X:=⟨_,rfl⟩;have hC1:Byts 32 C1:=hC1e▸Ex _ _ 0 32;rw[hH1e,hC1e] at g;have hre:=Si gi;have hr:=Aac g1
 go_wp2_with (first|(refine Ae rfl (Al rfl Af (by rfl) hre) ?_)|(refine Ae rfl (Al rfl Af (by rfl) hr) ?_))
 by_cases hz1:shZ A E=true
 case neg =>
  refine(EL _ A E _ hE hA hEb (by simpa using hz1)).mono ?_;rintro x v9 ⟨rfl,hb⟩;exact⟨rfl,(by unfold Do;rw[if_neg (not_not_intro hf),if_neg (not_not_intro h8),if_pos (fun h=>hz1 (by rw[←hEe];exact h.1))]:Do O H C A S l m=gup 18).symm,hB.trans (hb.mono hB.size)⟩
 refine(D0 b H1 C1 _ A E _ hE g hC1 hA hEb hz1).mono ?_;rintro x v7 ⟨rfl,g',t1⟩;replace g0:=g0.tou t1 (by omega);replace g1:=g1.tou t1 (by omega);replace g2:=g2.tou t1 (by omega);replace gP:=gP.tou t1 (by omega);replace gi:=gi.tou t1 (by omega);replace hE:=hE.touch t1 hb3;replace hB:=Br hB t1 hbS (Ac4 _);clear t1;clear g hr hre;have g:=g';clear g';obtain⟨C2,hC2e⟩:∃X,chn C1 (mkS 32 (shF A E)) 0=X:=⟨_,rfl⟩;have hC2:Byts 32 C2:=hC2e▸Ex _ _ 0 32;rw[hC2e] at g;have hre:=Si gi
 go_wp2_with (first|(refine Aq Af g0 (by rfl) ?_)|(refine Ae rfl (Al rfl Af (by rfl) hre) ?_))
 by_cases hz2:shZ O E=true
 case neg =>
  refine(EL _ O E _ hE hO hEb (by simpa using hz2)).mono ?_;rintro x v9 ⟨rfl,hb⟩;exact⟨rfl,(by unfold Do;rw[if_neg (not_not_intro hf),if_neg (not_not_intro h8),if_pos (fun h=>hz2 (by rw[←hEe];exact h.2))]:Do O H C A S l m=gup 18).symm,hB.trans (hb.mono hB.size)⟩
 refine(D0 b H1 C2 _ O E _ hE g hC2 hO hEb hz2).mono ?_;rintro x v8 ⟨rfl,g',t1⟩;replace g0:=g0.tou t1 (by omega);replace g1:=g1.tou t1 (by omega);replace g2:=g2.tou t1 (by omega);replace gP:=gP.tou t1 (by omega);replace gi:=gi.tou t1 (by omega);replace hE:=hE.touch t1 hb3;replace hB:=Br hB t1 hbS (Ac4 _);clear t1;clear g hre;have g:=g';clear g';obtain⟨C3,hC3e⟩:∃X,chn C2 (mkS 32 (shF O E)) 0=X:=⟨_,rfl⟩;have hC3:Byts 32 C3:=hC3e▸Ex _ _ 0 32;rw[hC3e] at g
 go_wp2_with (refine Aq Af g2 (by rfl) ?_)
 refine(Kg b H1 C3 _ S _ hE hb3 g hH1 hC3 hS).mono ?_;rintro x v9 ⟨rfl,g',t1⟩;replace g0:=g0.tou t1 (by omega);replace g1:=g1.tou t1 (by omega);replace g2:=g2.tou t1 (by omega);replace gP:=gP.tou t1 (by omega);replace gi:=gi.tou t1 (by omega);replace hE:=hE.touch t1 hb3;replace hB:=Br hB t1 hbS (Ac4 _);clear t1;clear g;have g:=g';clear g';obtain⟨L,hLe⟩:∃X,chn C3 (mkS 32 S)=X:=⟨_,rfl⟩;have hL:∀i,Byts 32 (L i):=fun i=>hLe▸Ex _ _ i 32
 rw[hLe] at g;obtain⟨H2,hH2e⟩:∃X,Dk H1 (mkS 32 (L 1))=X:=⟨_,rfl⟩;have hH2:Byts 32 H2:=hH2e▸EX _ _ 32;rw[hH2e] at g;have hcl:_:=gi.at 34 (by omega);replace hcl:_=some (Value.string box):=hcl;go_wp2_with fail;have hE2:txt et=E:=by rw[←hete];exact hEe
 have hbl:fiL C A O S m=L:=by simp only[fiL,fiE,hE2,hete,Hn,hC1e,hC2e,hC3e,hLe]
 have hbh:fiH H C A O S m=H2:=by
  have hb2:Hn C et (shF A E) (shF O E) S=L:=by simp only[Hn,hC1e,hC2e,hC3e,hLe]
  simp only[fiH,fiE,hE2,hete,Ml,hb2,hH1e,hH2e]
 have hTe:Cg (L 2) Cu box (mkS 32 H2)=fiT H C A O S m:=by simp only[fiT,hbl,hbh,hbx]
 have hzz:shZ A (fiE m)=true∧shZ O (fiE m)=true:=by
  have:fiE m=E:=hEe;rw[this];exact⟨hz1,hz2⟩
 by_cases hz:(Cg (L 2) Cu box (mkS 32 H2)).2=0
 case neg =>
  refine(Z9 b H2 (L 0) (L 2) box _ hE hb3 g hH2 (hL 2) (by omega) hz).mono ?_;rintro x v10 ⟨rfl,t1⟩;exact⟨rfl,(by unfold Do;rw[if_neg (not_not_intro hf),if_neg (not_not_intro h8),if_neg (not_not_intro hzz),if_pos (by rw[←hTe];exact hz)]:Do O H C A S l m=gup 13).symm,Br hB t1 hbS (Ac4 _)⟩
 refine(Z8 b H2 (L 0) (L 2) box _ hE hb3 g hH2 (hL 2) (by omega) hz).mono ?_;rintro x v10 ⟨rfl,g',t1⟩;replace g0:=g0.tou t1 (by omega);replace g1:=g1.tou t1 (by omega);replace g2:=g2.tou t1 (by omega);replace gP:=gP.tou t1 (by omega);replace gi:=gi.tou t1 (by omega);replace hE:=hE.touch t1 hb3;replace hB:=Br hB t1 hbS (Ac4 _);clear t1;clear g hcl;have g:=g';clear g';go_wp2_with fail;refine(P9 b _ (L 0) _ _ hE g (hL 0)).mono ?_;rintro x v11 ⟨rfl,hb⟩;replace g0:=g0.kept hb;replace g1:=g1.kept hb;replace g2:=g2.kept hb;replace gP:=gP.kept hb;replace gi:=gi.kept hb;replace g:=g.kept hb;replace hE:=hE.kept hb;replace hB:=hB.trans (hb.mono hB.size);clear hb;obtain⟨N,hNe⟩:∃X,chn (L 0) ⟨#[]⟩=X:=⟨_,rfl⟩;rw[hNe];have lcg0:=g0.lt;have lcg1:=g1.lt;have lcg2:=g2.lt;have lcgP:=gP.lt;have lcgi:=gi.lt;have lcg:=g.lt;have lcB:=hB.size;have lcE:=hE.two
 go_wp2_with (refine Ng ?_;intro v11a v11b c7 n00 n10 hb hbB;refine Hid.out ?_)
 have c5:=hb.size;replace g0:=g0.kept hb;replace g1:=g1.kept hb;replace g2:=g2.kept hb;replace gP:=gP.kept hb;replace gi:=gi.kept hb;replace g:=g.kept hb;replace hE:=hE.kept hb;replace hB:=hB.trans (hb.mono hB.size);clear hb;have c1:=g.lt;have c6:=hB.size;replace g0:=g0.kept hbB;replace g1:=g1.kept hbB;replace g2:=g2.kept hbB;replace gP:=gP.kept hbB;replace gi:=gi.kept hbB;replace g:=g.kept hbB;replace hE:=hE.kept hbB;replace hB:=hB.trans (hbB.mono hB.size);clear hbB;refine Hid.mk ?_
 go_wp2_with (refine A0 Af n00 (by rfl) (by rfl) ?_;intro v11c n0 o6;refine Hid.out ?_)
 replace n10:=n10.only o6 (by omega);replace g0:=g0.only o6 (by omega);replace g1:=g1.only o6 (by omega);replace g2:=g2.only o6 (by omega);replace gP:=gP.only o6 (by omega);replace gi:=gi.only o6 (by omega);replace g:=g.only o6 (by omega);replace hE:=hE.only o6 (by omega);replace hB:=hB.trans (o6.below (by omega));clear o6;clear n00;refine Hid.mk ?_
 go_wp2_with (refine A0 Af n10 (by rfl) (by rfl) ?_;intro v11d n1 o6;refine Hid.out ?_)
 replace n0:=n0.only o6 (by omega);replace g0:=g0.only o6 (by omega);replace g1:=g1.only o6 (by omega);replace g2:=g2.only o6 (by omega);replace gP:=gP.only o6 (by omega);replace gi:=gi.only o6 (by omega);replace g:=g.only o6 (by omega);replace hE:=hE.only o6 (by omega);replace hB:=hB.trans (o6.below (by omega));clear o6;clear n10;refine Hid.mk ?_;have hcl:=RZ g1;have hci:_:=gi.at 0 (by omega);replace hci:_=some (Value.int .u32 n4):=hci;have lzg0:=g0.lt;have lzg1:=g1.lt;have lzg2:=g2.lt;have lzgP:=gP.lt;have lzgi:=gi.lt;have lzg:=g.lt;have lzB:=hB.size;have lzE:=hE.two
 go_wp2_with (first|(refine Aq Af n0 (by rfl) ?_)|(refine Aq Af n1 (by rfl) ?_)|(refine Ae rfl (IV rfl (by rfl) (by rfl) (by rfl) (by rfl)) ?_)|(refine Dw AW (B8 _ _ _ _) gP (by rfl) (by rfl) ?_;intro v12 q0 o9;refine Hid.out ?_))
 refine Hid.mk ?_;go_wp2_with fail;refine bodyPost_ret (XE results55 AW q0 (by rfl)) rfl ⟨?_,hB.trans (o9.below (by omega))⟩;unfold Do;rw[if_neg (not_not_intro hf),if_neg (not_not_intro h8),if_neg (not_not_intro hzz),if_neg (not_not_intro (by rw[←hTe];exact hz))]
 have hN2:fiN C A O S m=N:=by
  unfold fiN;rw[hbl];exact hNe
 rw[hN2,hn4]
end Go.Proofs.YthghcjepdhkfdaaGreatDoor
